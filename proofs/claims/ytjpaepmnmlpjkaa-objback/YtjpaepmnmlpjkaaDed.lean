/-
  Layer 7: Decode, behind the sum.
-/
import Derived.Test.YtjpaepmnmlpjkaaDec
namespace Go.Proofs.Ytjpaepmnmlpjkaa
set_option linter.unusedVariables false
set_option linter.unusedSimpArgs false
open Go.ChangeShapes Go.WideShapes Go.ChangeAt Go.RowKit
attribute [local go_sem ↓] loadO_seal storeO_seal

theorem Fine.few {o : Ob} (h : Fine o) : Few o := by
  refine ⟨?_, ?_, ?_, ?_, ?_, ?_, ?_, ?_, ?_, ?_, ?_, ?_, ?_, ?_, ?_⟩
  · have := h.im.1; omega
  · have := h.co; omega
  · have := h.pr.1; omega
  · have := h.na.1; have := h.pr.1; omega
  · have := h.ex; have := h.pr.1; omega
  · have := h.va.1; omega
  · have := h.sh.1; omega
  · have := h.st.1; omega
  · have := h.ds.1; omega
  · intro x hx; have := (h.ds.2 x hx).2.2.1; omega
  · have := h.fx.1; omega
  · have := h.nm; omega
  · intro x hx; have := h.im.2 x hx; omega
  · intro x hx; have := h.na.2 x hx; omega
  · intro x hx; have := h.st.2 x hx; omega
theorem De.drew {w X : World} {be ga : Nat} {a : Option Addr} {e cap : Nat} {f : Nat → Int} {c : Oc} {o : Ob} {s : St} {B : Nat} (h : De w X be ga a e cap f c o s B) : De w X.drew be ga a e cap f c o s B := h.below (Below.refl _ _).drew
theorem De.as {w X : World} {be ga : Nat} {a : Option Addr} {e cap : Nat} {f : Nat → Int} {c : Oc} {o oo : Ob} {s : St} {B : Nat} (h : De w X be ga a e cap f c o s B) (ho : o = oo) : De w X be ga a e cap f c oo s B := ho ▸ h
/-- The answer is put into its cell. -/
theorem De.put {w X : World} {be ga : Nat} {a : Option Addr} {e cap : Nat} {f : Nat → Int} {c : Oc} {o : Ob} {s : St} {B : Nat} (h : De w X be ga a e cap f c o s B) (c2 : Oc) : ∃ Z, (storeO ⟨w.heap.size, 0, none⟩ (.agg c2.cells)).run Try.prog X = .ok () Z ∧ Z.cell? ⟨be, 1, none⟩ = some (.int .i64 (s.p : Int)) ∧ Hid (OAt Z w.heap.size c2 ∧ Below w.heap.size w Z ∧ ObAt Z B c o) := by
  obtain ⟨Z, z1, z2, z3⟩ := storeO_run h.t2 c2
  have lo := h.lo
  refine ⟨Z, z1, (World.cell?_of_block (a := ⟨be, 1, none⟩) (z3.blk be h.rd.bl (by omega))).trans h.rd.c1, z2, Below.of_tq h.bel z3 (fun k hk => by omega), h.ob.tq z3 (fun k hk => by omega)⟩
set_option maxHeartbeats 8000000 in
set_option maxRecDepth 20000 in
theorem decode_stuck (w : World) (b off e cap : Nat) (f : Nat → Int) (h : Src w (some ⟨b, off, none⟩) (e + 4) cap f) (hc : e + 4 ≤ cap) (hl : 4 ≤ e) (hl2 : e ≤ 1048572) (hm : strOfNums (bl f 4) = markS) (hs : gotW (e + 4) f (e : Int) = fnv f e) (hst0 : (objS f e ⟨4, false⟩).2.st = true) : Calls Try.prog 14 #[.slice (some ⟨b, off, none⟩) ((e + 4 : Nat)) cap] w (PostC w f (e + 4)) := by
  have hR : decR f (e + 4) = (((objS f e ⟨4, false⟩).2.p : Int), 71) := by unfold decR; rw [if_pos ⟨by omega, by omega, hm⟩, Nat.add_sub_cancel, if_pos hs, if_pos (Or.inl hst0)]
  have d1 : decide ((1048576 : Int) < ((e + 4 : Nat) : Int)) = false := decide_eq_false (by omega)
  have d2 : ¬ 1048576 < e + 4 := by omega
  have d3 : decide (((e + 4 : Nat) : Int) < 8) = false := decide_eq_false (by omega)
  have d4 : ¬ e + 4 < 8 := by omega
  have d5 : (4 : Int) ≤ (cap : Int) := by omega
  have d6 : 4 ≤ cap := by omega
  have d7 : (e : Int) ≤ (cap : Int) := by omega
  have d8 : e ≤ cap := by omega
  have d9 : IntKind.i64.wrap (((e + 4 : Nat) : Int) - 4) = (e : Int) := by rw [IntWalk.i64_left, IntWalk.wrap64_in] <;> omega
  have e1 : decide ((1048576 : Int) < (e : Int) + 4) = false := decide_eq_false (by omega)
  have e3 : decide ((e : Int) + 4 < 8) = false := decide_eq_false (by omega)
  have e9 : IntKind.i64.wrap (e : Int) = (e : Int) := by rw [IntWalk.i64_left, IntWalk.wrap64_in] <;> omega
  have e8 : (0 : Int) ≤ (e : Int) := by omega
  have hv := conv4 h (X := w.alloc zeroO) (by go_grown) (by omega)
  rw [hm] at hv
  have T0 : Hid (Below w.heap.size w (w.alloc zeroO) ∧ OAt (w.alloc zeroO) w.heap.size Oc.zero) := ⟨by go_grown, zero_at w⟩
  have GT : Hid (∀ X, Below w.heap.size w X ∧ OAt X w.heap.size Oc.zero → Calls Try.prog 29 #[.slice (some ⟨b, off, none⟩) ((e + 4 : Nat)) cap, .int .i64 (e : Int)] X fun en Y => en = .returned (.tuple #[.int .u32 (fnv f e), .bool (fits (e + 4) (e : Int))]) ∧ Below w.heap.size w Y ∧ OAt Y w.heap.size Oc.zero) := fun X hX => (get_any (some ⟨b, off, none⟩) (e + 4) cap f e X (h.below hX.1).rd).mono fun en Y hh => ⟨by rw [← hs]; exact hh.1, hX.1.trans (hh.2.mono hX.1.size), (hh.2.block _ hX.2.lt).trans hX.2⟩
  have SM : Hid (∀ X, Below w.heap.size w X ∧ OAt X w.heap.size Oc.zero → Calls Try.prog 30 #[.slice (some ⟨b, off, none⟩) e cap] X fun en Y => en = .returned (.int .u32 (fnv f e)) ∧ Y = X) := fun X hX => sum_any _ e cap f X ((h.below hX.1).less e (by omega))
  have ST : Hid (∀ X, Below w.heap.size w X ∧ OAt X w.heap.size Oc.zero → Calls Try.prog 31 #[.pointer (some ⟨X.heap.size, 0, none⟩)] (X.alloc (.cells #[.slice (some ⟨b, off, none⟩) e cap, .int .i64 4, .bool false] 64)) fun en Y => ∃ c o Z, en = .returned (.agg (Oc.cells c)) ∧ (storeO ⟨Y.heap.size, 0, none⟩ (.agg c.cells)).run Try.prog (Y.alloc zeroO) = .ok () Z ∧ Hid (De w Z X.heap.size Y.heap.size (some ⟨b, off, none⟩) e cap f c o (objS f e ⟨4, false⟩).2 (X.heap.size + 5) ∧ ((objS f e ⟨4, false⟩).2.st = false → o = (objS f e ⟨4, false⟩).1))) := fun X hX => stage w X b off e cap f hX.1 hX.2 h hc hl hl2
  have hoct : Oct f (e + 4) := fun i hi => by
    rcases h.rd.2 with h0 | ⟨b', off', _, h2⟩
    · omega
    · exact (h2 i hi).2
  generalize fnv f e = fv at *
  generalize fits (e + 4) (e : Int) = ft at *
  have n1 : (fv != fv) = false := by simp
  clear h hs hm
  unfold zeroO at T0 hv ST
  unfold markS at hv
  generalize (objS f e ⟨4, false⟩).1 = oo at *
  generalize (objS f e ⟨4, false⟩).2 = ss at *
  obtain ⟨sp, sst⟩ := ss
  simp only at *
  subst hst0
  go_enter Try.func14, Try.ntmps14
  go_wp2_with (first
    | (go_at_call 29; refine (GT.out _ T0.out).mono ?_; rintro en w1 ⟨rfl, hb1⟩; have H1 := hid_of hb1; clear hb1)
    | (go_at_call 30; refine (SM.out _ H1.out).mono ?_; rintro en w2 ⟨rfl, hw⟩; rw [hw]; clear hw)
    | (go_at_call 31; refine (ST.out _ H1.out).mono ?_; rintro en w3 ⟨c, o, Z, rfl, hst, HD⟩; have k1 := HD.out.1.rd.c1; have k2 := HD.out.1.rd.c2; obtain ⟨Z2, z1, z2, HZ⟩ := HD.out.1.drew.put Oc.zero; simp only [Oc.cells, Oc.zero] at z1))
  go_region
  all_goals
    go_wp2_with fail
    refine ret_cell_tmp2 (p := 2) (q := 3) (r := 4) rfl rfl (loadO_run HZ.out.1) rfl ?_
    exact postC_bad hR (by omega) HZ.out.2.1
set_option maxHeartbeats 8000000 in
set_option maxRecDepth 20000 in
theorem decode_less (w : World) (b off e cap : Nat) (f : Nat → Int) (h : Src w (some ⟨b, off, none⟩) (e + 4) cap f) (hc : e + 4 ≤ cap) (hl : 4 ≤ e) (hl2 : e ≤ 1048572) (hm : strOfNums (bl f 4) = markS) (hs : gotW (e + 4) f (e : Int) = fnv f e) (hst0 : (objS f e ⟨4, false⟩).2.st = false) (hp0 : (objS f e ⟨4, false⟩).2.p < e) : Calls Try.prog 14 #[.slice (some ⟨b, off, none⟩) ((e + 4 : Nat)) cap] w (PostC w f (e + 4)) := by
  have hR : decR f (e + 4) = (((objS f e ⟨4, false⟩).2.p : Int), 71) := by unfold decR; rw [if_pos ⟨by omega, by omega, hm⟩, Nat.add_sub_cancel, if_pos hs, if_pos (Or.inr hp0)]
  have d1 : decide ((1048576 : Int) < ((e + 4 : Nat) : Int)) = false := decide_eq_false (by omega)
  have d2 : ¬ 1048576 < e + 4 := by omega
  have d3 : decide (((e + 4 : Nat) : Int) < 8) = false := decide_eq_false (by omega)
  have d4 : ¬ e + 4 < 8 := by omega
  have d5 : (4 : Int) ≤ (cap : Int) := by omega
  have d6 : 4 ≤ cap := by omega
  have d7 : (e : Int) ≤ (cap : Int) := by omega
  have d8 : e ≤ cap := by omega
  have d9 : IntKind.i64.wrap (((e + 4 : Nat) : Int) - 4) = (e : Int) := by rw [IntWalk.i64_left, IntWalk.wrap64_in] <;> omega
  have e1 : decide ((1048576 : Int) < (e : Int) + 4) = false := decide_eq_false (by omega)
  have e3 : decide ((e : Int) + 4 < 8) = false := decide_eq_false (by omega)
  have e9 : IntKind.i64.wrap (e : Int) = (e : Int) := by rw [IntWalk.i64_left, IntWalk.wrap64_in] <;> omega
  have e8 : (0 : Int) ≤ (e : Int) := by omega
  have hv := conv4 h (X := w.alloc zeroO) (by go_grown) (by omega)
  rw [hm] at hv
  have T0 : Hid (Below w.heap.size w (w.alloc zeroO) ∧ OAt (w.alloc zeroO) w.heap.size Oc.zero) := ⟨by go_grown, zero_at w⟩
  have GT : Hid (∀ X, Below w.heap.size w X ∧ OAt X w.heap.size Oc.zero → Calls Try.prog 29 #[.slice (some ⟨b, off, none⟩) ((e + 4 : Nat)) cap, .int .i64 (e : Int)] X fun en Y => en = .returned (.tuple #[.int .u32 (fnv f e), .bool (fits (e + 4) (e : Int))]) ∧ Below w.heap.size w Y ∧ OAt Y w.heap.size Oc.zero) := fun X hX => (get_any (some ⟨b, off, none⟩) (e + 4) cap f e X (h.below hX.1).rd).mono fun en Y hh => ⟨by rw [← hs]; exact hh.1, hX.1.trans (hh.2.mono hX.1.size), (hh.2.block _ hX.2.lt).trans hX.2⟩
  have SM : Hid (∀ X, Below w.heap.size w X ∧ OAt X w.heap.size Oc.zero → Calls Try.prog 30 #[.slice (some ⟨b, off, none⟩) e cap] X fun en Y => en = .returned (.int .u32 (fnv f e)) ∧ Y = X) := fun X hX => sum_any _ e cap f X ((h.below hX.1).less e (by omega))
  have ST : Hid (∀ X, Below w.heap.size w X ∧ OAt X w.heap.size Oc.zero → Calls Try.prog 31 #[.pointer (some ⟨X.heap.size, 0, none⟩)] (X.alloc (.cells #[.slice (some ⟨b, off, none⟩) e cap, .int .i64 4, .bool false] 64)) fun en Y => ∃ c o Z, en = .returned (.agg (Oc.cells c)) ∧ (storeO ⟨Y.heap.size, 0, none⟩ (.agg c.cells)).run Try.prog (Y.alloc zeroO) = .ok () Z ∧ Hid (De w Z X.heap.size Y.heap.size (some ⟨b, off, none⟩) e cap f c o (objS f e ⟨4, false⟩).2 (X.heap.size + 5) ∧ ((objS f e ⟨4, false⟩).2.st = false → o = (objS f e ⟨4, false⟩).1))) := fun X hX => stage w X b off e cap f hX.1 hX.2 h hc hl hl2
  have hoct : Oct f (e + 4) := fun i hi => by
    rcases h.rd.2 with h0 | ⟨b', off', _, h2⟩
    · omega
    · exact (h2 i hi).2
  generalize fnv f e = fv at *
  generalize fits (e + 4) (e : Int) = ft at *
  have n1 : (fv != fv) = false := by simp
  clear h hs hm
  unfold zeroO at T0 hv ST
  unfold markS at hv
  generalize (objS f e ⟨4, false⟩).1 = oo at *
  generalize (objS f e ⟨4, false⟩).2 = ss at *
  obtain ⟨sp, sst⟩ := ss
  simp only at *
  subst hst0
  have p1 : decide ((sp : Int) < (e : Int)) = true := decide_eq_true (by omega)
  have p2 : sp < e := hp0
  go_enter Try.func14, Try.ntmps14
  go_wp2_with (first
    | (go_at_call 29; refine (GT.out _ T0.out).mono ?_; rintro en w1 ⟨rfl, hb1⟩; have H1 := hid_of hb1; clear hb1)
    | (go_at_call 30; refine (SM.out _ H1.out).mono ?_; rintro en w2 ⟨rfl, hw⟩; rw [hw]; clear hw)
    | (go_at_call 31; refine (ST.out _ H1.out).mono ?_; rintro en w3 ⟨c, o, Z, rfl, hst, HD⟩; have k1 := HD.out.1.rd.c1; have k2 := HD.out.1.rd.c2; obtain ⟨Z2, z1, z2, HZ⟩ := HD.out.1.drew.put Oc.zero; simp only [Oc.cells, Oc.zero] at z1))
  go_region
  all_goals
    go_wp2_with fail
    refine ret_cell_tmp2 (p := 2) (q := 3) (r := 4) rfl rfl (loadO_run HZ.out.1) rfl ?_
    exact postC_bad hR (by omega) HZ.out.2.1
set_option maxHeartbeats 8000000 in
set_option maxRecDepth 20000 in
theorem decode_wrong (w : World) (b off e cap : Nat) (f : Nat → Int) (h : Src w (some ⟨b, off, none⟩) (e + 4) cap f) (hc : e + 4 ≤ cap) (hl : 4 ≤ e) (hl2 : e ≤ 1048572) (hm : strOfNums (bl f 4) = markS) (hs : gotW (e + 4) f (e : Int) = fnv f e) (hst0 : (objS f e ⟨4, false⟩).2.st = false) (hp0 : ¬ (objS f e ⟨4, false⟩).2.p < e) (hr0 : rightB (objS f e ⟨4, false⟩).1 = false) : Calls Try.prog 14 #[.slice (some ⟨b, off, none⟩) ((e + 4 : Nat)) cap] w (PostC w f (e + 4)) := by
  have hR : decR f (e + 4) = (0, 70) := by unfold decR; rw [if_pos ⟨by omega, by omega, hm⟩, Nat.add_sub_cancel, if_pos hs, if_neg (by rw [hst0]; simp; omega), if_neg (by rw [hr0]; simp)]
  have d1 : decide ((1048576 : Int) < ((e + 4 : Nat) : Int)) = false := decide_eq_false (by omega)
  have d2 : ¬ 1048576 < e + 4 := by omega
  have d3 : decide (((e + 4 : Nat) : Int) < 8) = false := decide_eq_false (by omega)
  have d4 : ¬ e + 4 < 8 := by omega
  have d5 : (4 : Int) ≤ (cap : Int) := by omega
  have d6 : 4 ≤ cap := by omega
  have d7 : (e : Int) ≤ (cap : Int) := by omega
  have d8 : e ≤ cap := by omega
  have d9 : IntKind.i64.wrap (((e + 4 : Nat) : Int) - 4) = (e : Int) := by rw [IntWalk.i64_left, IntWalk.wrap64_in] <;> omega
  have e1 : decide ((1048576 : Int) < (e : Int) + 4) = false := decide_eq_false (by omega)
  have e3 : decide ((e : Int) + 4 < 8) = false := decide_eq_false (by omega)
  have e9 : IntKind.i64.wrap (e : Int) = (e : Int) := by rw [IntWalk.i64_left, IntWalk.wrap64_in] <;> omega
  have e8 : (0 : Int) ≤ (e : Int) := by omega
  have hv := conv4 h (X := w.alloc zeroO) (by go_grown) (by omega)
  rw [hm] at hv
  have T0 : Hid (Below w.heap.size w (w.alloc zeroO) ∧ OAt (w.alloc zeroO) w.heap.size Oc.zero) := ⟨by go_grown, zero_at w⟩
  have GT : Hid (∀ X, Below w.heap.size w X ∧ OAt X w.heap.size Oc.zero → Calls Try.prog 29 #[.slice (some ⟨b, off, none⟩) ((e + 4 : Nat)) cap, .int .i64 (e : Int)] X fun en Y => en = .returned (.tuple #[.int .u32 (fnv f e), .bool (fits (e + 4) (e : Int))]) ∧ Below w.heap.size w Y ∧ OAt Y w.heap.size Oc.zero) := fun X hX => (get_any (some ⟨b, off, none⟩) (e + 4) cap f e X (h.below hX.1).rd).mono fun en Y hh => ⟨by rw [← hs]; exact hh.1, hX.1.trans (hh.2.mono hX.1.size), (hh.2.block _ hX.2.lt).trans hX.2⟩
  have SM : Hid (∀ X, Below w.heap.size w X ∧ OAt X w.heap.size Oc.zero → Calls Try.prog 30 #[.slice (some ⟨b, off, none⟩) e cap] X fun en Y => en = .returned (.int .u32 (fnv f e)) ∧ Y = X) := fun X hX => sum_any _ e cap f X ((h.below hX.1).less e (by omega))
  have ST : Hid (∀ X, Below w.heap.size w X ∧ OAt X w.heap.size Oc.zero → Calls Try.prog 31 #[.pointer (some ⟨X.heap.size, 0, none⟩)] (X.alloc (.cells #[.slice (some ⟨b, off, none⟩) e cap, .int .i64 4, .bool false] 64)) fun en Y => ∃ c o Z, en = .returned (.agg (Oc.cells c)) ∧ (storeO ⟨Y.heap.size, 0, none⟩ (.agg c.cells)).run Try.prog (Y.alloc zeroO) = .ok () Z ∧ Hid (De w Z X.heap.size Y.heap.size (some ⟨b, off, none⟩) e cap f c o (objS f e ⟨4, false⟩).2 (X.heap.size + 5) ∧ ((objS f e ⟨4, false⟩).2.st = false → o = (objS f e ⟨4, false⟩).1))) := fun X hX => stage w X b off e cap f hX.1 hX.2 h hc hl hl2
  have hoct : Oct f (e + 4) := fun i hi => by
    rcases h.rd.2 with h0 | ⟨b', off', _, h2⟩
    · omega
    · exact (h2 i hi).2
  generalize fnv f e = fv at *
  generalize fits (e + 4) (e : Int) = ft at *
  have n1 : (fv != fv) = false := by simp
  clear h hs hm
  unfold zeroO at T0 hv
  unfold markS at hv
  have SU : Hid (∀ X, Below w.heap.size w X ∧ OAt X w.heap.size Oc.zero → Calls Try.prog 31 #[.pointer (some ⟨X.heap.size, 0, none⟩)] (X.alloc (.cells #[.slice (some ⟨b, off, none⟩) e cap, .int .i64 4, .bool false] 64)) fun en Y => ∃ c Z, en = .returned (.agg (Oc.cells c)) ∧ (storeO ⟨Y.heap.size, 0, none⟩ (.agg c.cells)).run Try.prog (Y.alloc zeroO) = .ok () Z ∧ Hid (De w Z X.heap.size Y.heap.size (some ⟨b, off, none⟩) e cap f c (objS f e ⟨4, false⟩).1 (objS f e ⟨4, false⟩).2 (X.heap.size + 5))) := fun X hX => (ST.out X hX).mono fun en Y hh => by
    obtain ⟨c, o, Z, h1, h2, h3⟩ := hh
    exact ⟨c, Z, h1, h2, De.as h3.out.1 (h3.out.2 hst0)⟩
  clear ST
  unfold zeroO at SU
  have FI := (fine_read (f := f) (len := e) (fun i hi => hoct i (by omega)) (by omega) ⟨4, false⟩ hst0).few
  have OB : Hid (∀ X B c, ObAt X B c (objS f e ⟨4, false⟩).1 → ObAt X B c (objS f (e + 4 - 4) ⟨4, false⟩).1) := fun X B c hX => by rw [Nat.add_sub_cancel]; exact hX
  have RG : Hid (∀ X B c, ObAt X B c (objS f e ⟨4, false⟩).1 → Calls Try.prog 10 #[.agg c.cells] X fun en Y => en = .returned (.bool false) ∧ Below X.heap.size X Y) := fun X B c hX => (right_any X c _ (hX.rd FI)).mono fun en Y hh => ⟨by rw [← hr0]; exact hh.1, hh.2⟩
  generalize (objS f e ⟨4, false⟩).1 = oo at *
  generalize (objS f e ⟨4, false⟩).2 = ss at *
  obtain ⟨sp, sst⟩ := ss
  simp only at *
  subst hst0
  have p1 : decide ((sp : Int) < (e : Int)) = false := decide_eq_false (by omega)
  have p2 : ¬ sp < e := hp0
  clear hr0 FI
  go_enter Try.func14, Try.ntmps14
  go_wp2_with (first
    | (go_at_call 29; refine (GT.out _ T0.out).mono ?_; rintro en w1 ⟨rfl, hb1⟩; have H1 := hid_of hb1; clear hb1)
    | (go_at_call 30; refine (SM.out _ H1.out).mono ?_; rintro en w2 ⟨rfl, hw⟩; rw [hw]; clear hw)
    | (go_at_call 31; refine (SU.out _ H1.out).mono ?_; rintro en w3 ⟨c, Z, rfl, hst, DD⟩; have k1 := DD.out.rd.c1; have k2 := DD.out.rd.c2; have lo1 := loadO_run DD.out.og)
    | (go_at_call 10; refine (RG.out _ _ c DD.out.ob).mono ?_; rintro en w5 ⟨rfl, hb5⟩; have D5 := hid_of (DD.out.below hb5); have lo5 := loadO_run D5.out.og; obtain ⟨Z2, z1, z2, HZ⟩ := D5.out.put Oc.zero; simp only [Oc.cells, Oc.zero] at z1; clear hb5))
  refine ret_cell_tmp2 (p := 2) (q := 3) (r := 4) rfl rfl (loadO_run HZ.out.1) rfl ?_
  exact postC_bad hR (by omega) HZ.out.2.1
set_option maxHeartbeats 8000000 in
set_option maxRecDepth 20000 in
theorem decode_ok (w : World) (b off e cap : Nat) (f : Nat → Int) (h : Src w (some ⟨b, off, none⟩) (e + 4) cap f) (hc : e + 4 ≤ cap) (hl : 4 ≤ e) (hl2 : e ≤ 1048572) (hm : strOfNums (bl f 4) = markS) (hs : gotW (e + 4) f (e : Int) = fnv f e) (hst0 : (objS f e ⟨4, false⟩).2.st = false) (hp0 : ¬ (objS f e ⟨4, false⟩).2.p < e) (hr0 : rightB (objS f e ⟨4, false⟩).1 = true) : Calls Try.prog 14 #[.slice (some ⟨b, off, none⟩) ((e + 4 : Nat)) cap] w (PostC w f (e + 4)) := by
  have hR : decR f (e + 4) = (0, 0) := by unfold decR; rw [if_pos ⟨by omega, by omega, hm⟩, Nat.add_sub_cancel, if_pos hs, if_neg (by rw [hst0]; simp; omega), if_pos hr0]
  have d1 : decide ((1048576 : Int) < ((e + 4 : Nat) : Int)) = false := decide_eq_false (by omega)
  have d2 : ¬ 1048576 < e + 4 := by omega
  have d3 : decide (((e + 4 : Nat) : Int) < 8) = false := decide_eq_false (by omega)
  have d4 : ¬ e + 4 < 8 := by omega
  have d5 : (4 : Int) ≤ (cap : Int) := by omega
  have d6 : 4 ≤ cap := by omega
  have d7 : (e : Int) ≤ (cap : Int) := by omega
  have d8 : e ≤ cap := by omega
  have d9 : IntKind.i64.wrap (((e + 4 : Nat) : Int) - 4) = (e : Int) := by rw [IntWalk.i64_left, IntWalk.wrap64_in] <;> omega
  have e1 : decide ((1048576 : Int) < (e : Int) + 4) = false := decide_eq_false (by omega)
  have e3 : decide ((e : Int) + 4 < 8) = false := decide_eq_false (by omega)
  have e9 : IntKind.i64.wrap (e : Int) = (e : Int) := by rw [IntWalk.i64_left, IntWalk.wrap64_in] <;> omega
  have e8 : (0 : Int) ≤ (e : Int) := by omega
  have hv := conv4 h (X := w.alloc zeroO) (by go_grown) (by omega)
  rw [hm] at hv
  have T0 : Hid (Below w.heap.size w (w.alloc zeroO) ∧ OAt (w.alloc zeroO) w.heap.size Oc.zero) := ⟨by go_grown, zero_at w⟩
  have GT : Hid (∀ X, Below w.heap.size w X ∧ OAt X w.heap.size Oc.zero → Calls Try.prog 29 #[.slice (some ⟨b, off, none⟩) ((e + 4 : Nat)) cap, .int .i64 (e : Int)] X fun en Y => en = .returned (.tuple #[.int .u32 (fnv f e), .bool (fits (e + 4) (e : Int))]) ∧ Below w.heap.size w Y ∧ OAt Y w.heap.size Oc.zero) := fun X hX => (get_any (some ⟨b, off, none⟩) (e + 4) cap f e X (h.below hX.1).rd).mono fun en Y hh => ⟨by rw [← hs]; exact hh.1, hX.1.trans (hh.2.mono hX.1.size), (hh.2.block _ hX.2.lt).trans hX.2⟩
  have SM : Hid (∀ X, Below w.heap.size w X ∧ OAt X w.heap.size Oc.zero → Calls Try.prog 30 #[.slice (some ⟨b, off, none⟩) e cap] X fun en Y => en = .returned (.int .u32 (fnv f e)) ∧ Y = X) := fun X hX => sum_any _ e cap f X ((h.below hX.1).less e (by omega))
  have ST : Hid (∀ X, Below w.heap.size w X ∧ OAt X w.heap.size Oc.zero → Calls Try.prog 31 #[.pointer (some ⟨X.heap.size, 0, none⟩)] (X.alloc (.cells #[.slice (some ⟨b, off, none⟩) e cap, .int .i64 4, .bool false] 64)) fun en Y => ∃ c o Z, en = .returned (.agg (Oc.cells c)) ∧ (storeO ⟨Y.heap.size, 0, none⟩ (.agg c.cells)).run Try.prog (Y.alloc zeroO) = .ok () Z ∧ Hid (De w Z X.heap.size Y.heap.size (some ⟨b, off, none⟩) e cap f c o (objS f e ⟨4, false⟩).2 (X.heap.size + 5) ∧ ((objS f e ⟨4, false⟩).2.st = false → o = (objS f e ⟨4, false⟩).1))) := fun X hX => stage w X b off e cap f hX.1 hX.2 h hc hl hl2
  have hoct : Oct f (e + 4) := fun i hi => by
    rcases h.rd.2 with h0 | ⟨b', off', _, h2⟩
    · omega
    · exact (h2 i hi).2
  generalize fnv f e = fv at *
  generalize fits (e + 4) (e : Int) = ft at *
  have n1 : (fv != fv) = false := by simp
  clear h hs hm
  unfold zeroO at T0 hv
  unfold markS at hv
  have SU : Hid (∀ X, Below w.heap.size w X ∧ OAt X w.heap.size Oc.zero → Calls Try.prog 31 #[.pointer (some ⟨X.heap.size, 0, none⟩)] (X.alloc (.cells #[.slice (some ⟨b, off, none⟩) e cap, .int .i64 4, .bool false] 64)) fun en Y => ∃ c Z, en = .returned (.agg (Oc.cells c)) ∧ (storeO ⟨Y.heap.size, 0, none⟩ (.agg c.cells)).run Try.prog (Y.alloc zeroO) = .ok () Z ∧ Hid (De w Z X.heap.size Y.heap.size (some ⟨b, off, none⟩) e cap f c (objS f e ⟨4, false⟩).1 (objS f e ⟨4, false⟩).2 (X.heap.size + 5))) := fun X hX => (ST.out X hX).mono fun en Y hh => by
    obtain ⟨c, o, Z, h1, h2, h3⟩ := hh
    exact ⟨c, Z, h1, h2, De.as h3.out.1 (h3.out.2 hst0)⟩
  clear ST
  unfold zeroO at SU
  have FI := (fine_read (f := f) (len := e) (fun i hi => hoct i (by omega)) (by omega) ⟨4, false⟩ hst0).few
  have OB : Hid (∀ X B c, ObAt X B c (objS f e ⟨4, false⟩).1 → ObAt X B c (objS f (e + 4 - 4) ⟨4, false⟩).1) := fun X B c hX => by rw [Nat.add_sub_cancel]; exact hX
  have RG : Hid (∀ X B c, ObAt X B c (objS f e ⟨4, false⟩).1 → Calls Try.prog 10 #[.agg c.cells] X fun en Y => en = .returned (.bool true) ∧ Below X.heap.size X Y) := fun X B c hX => (right_any X c _ (hX.rd FI)).mono fun en Y hh => ⟨by rw [← hr0]; exact hh.1, hh.2⟩
  generalize (objS f e ⟨4, false⟩).1 = oo at *
  generalize (objS f e ⟨4, false⟩).2 = ss at *
  obtain ⟨sp, sst⟩ := ss
  simp only at *
  subst hst0
  have p1 : decide ((sp : Int) < (e : Int)) = false := decide_eq_false (by omega)
  have p2 : ¬ sp < e := hp0
  clear hr0 FI
  go_enter Try.func14, Try.ntmps14
  go_wp2_with (first
    | (go_at_call 29; refine (GT.out _ T0.out).mono ?_; rintro en w1 ⟨rfl, hb1⟩; have H1 := hid_of hb1; clear hb1)
    | (go_at_call 30; refine (SM.out _ H1.out).mono ?_; rintro en w2 ⟨rfl, hw⟩; rw [hw]; clear hw)
    | (go_at_call 31; refine (SU.out _ H1.out).mono ?_; rintro en w3 ⟨c, Z, rfl, hst, DD⟩; have k1 := DD.out.rd.c1; have k2 := DD.out.rd.c2; have lo1 := loadO_run DD.out.og)
    | (go_at_call 10; refine (RG.out _ _ c DD.out.ob).mono ?_; rintro en w5 ⟨rfl, hb5⟩; have D5 := hid_of (DD.out.below hb5); have lo5 := loadO_run D5.out.og; obtain ⟨Z2, z1, z2, HZ⟩ := D5.out.put c; clear hb5))
  refine ret_cell_tmp2 (p := 2) (q := 3) (r := 4) rfl rfl (loadO_run HZ.out.1) rfl ?_
  exact ⟨c, by rw [hR]; rfl, HZ.out.2.1, (fun h => by rw [hR] at h; exact absurd rfl h), fun _ => ⟨_, D5.out.lo.2.2.1, OB.out _ _ _ HZ.out.2.2⟩⟩
/-- Decode, of whatever bytes. -/
theorem decode_any (w : World) (a : Option Addr) (len cap : Nat) (f : Nat → Int) (h : Src w a len cap f) (hc : len ≤ cap) : Calls Try.prog 14 #[.slice a len cap] w (PostC w f len) := by
  by_cases h1 : 1048576 < len
  · exact decode_long w a len cap f h h1
  by_cases h2 : len < 8
  · exact decode_short w a len cap f h h2
  obtain ⟨b, off, rfl⟩ := h.some (by omega)
  by_cases hm : strOfNums (bl f 4) = markS
  · obtain ⟨e, rfl⟩ : ∃ e, len = e + 4 := ⟨len - 4, by omega⟩
    by_cases hs : gotW (e + 4) f (e : Int) = fnv f e
    · cases hst : (objS f e ⟨4, false⟩).2.st
      · by_cases hp : (objS f e ⟨4, false⟩).2.p < e
        · exact decode_less w b off e cap f h hc (by omega) (by omega) hm hs hst hp
        · cases hr : rightB (objS f e ⟨4, false⟩).1
          · exact decode_wrong w b off e cap f h hc (by omega) (by omega) hm hs hst hp hr
          · exact decode_ok w b off e cap f h hc (by omega) (by omega) hm hs hst hp hr
      · exact decode_stuck w b off e cap f h hc (by omega) (by omega) hm hs hst
    · exact decode_sum w b off e cap f h hc (by omega) (by omega) hm hs
  · exact decode_mark w b off len cap f h hc (by omega) (by omega) hm
end Go.Proofs.Ytjpaepmnmlpjkaa
