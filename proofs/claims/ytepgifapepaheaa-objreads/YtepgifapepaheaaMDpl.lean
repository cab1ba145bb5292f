/-
  Layer 7, the document's side: all of an object but descriptors and fixes.
-/
import Derived.Test.YtepgifapepaheaaMDds
namespace Go.Proofs.Ytepgifapepaheaa
set_option linter.unusedVariables false
set_option linter.unusedSimpArgs false
open Go.ChangeShapes Go.WideShapes Go.ChangeAt Go.RowKit
attribute [local go_sem] Oc.at0 Oc.at1 Oc.at2 Oc.at3 Oc.at4 Oc.at5 Oc.at6 Oc.at7 Oc.at8 Oc.at9 Oc.at10 Oc.at11 Oc.at12
attribute [local go_sem ↓] loadO_seal

/-- A row's elements, whatever is made behind. -/
theorem el1 {w : World} {α : Type} {val : α → Value} {s : Sl} {l : List α} (h : RdV w 1 s l.length (l.map val)) (d : α) (i : Nat) (hi : i < l.length) : ∃ b off, s.a = some ⟨b, off, none⟩ ∧ ∀ X, Below w.heap.size w X → X.cell? ⟨b, off + i, none⟩ = some (val (l.getD i d)) := by
  obtain ⟨b, off, h1, h2⟩ := row_at h i hi
  exact ⟨b, off, h1, fun X hX => by rw [getD_at l d i hi]; exact h2 i hi X hX⟩
theorem elk {w : World} {α : Type} {enc : α → Array Value} {k : Nat} {s : Sl} {l : List α} (h : RdV w k s l.length (flat enc l)) (he : ∀ x, (enc x).size = k) (d : α) (i : Nat) (hi : i < l.length) : ∃ b off, s.a = some ⟨b, off, none⟩ ∧ ∀ X, Below w.heap.size w X → ∀ m, m < k → X.cell? ⟨b, off + (i * k + m), none⟩ = (enc (l.getD i d))[m]? := by
  rcases h.many he (fun j => l.getD j d) (fun j hj => getD_at l d j hj) with h0 | ⟨b, off, h1, _, _⟩
  · omega
  refine ⟨b, off, h1, fun X hX m hm => ?_⟩
  rcases (h.below hX).many he (fun j => l.getD j d) (fun j hj => getD_at l d j hj) with h0 | ⟨b2, off2, h2, _, h3⟩
  · omega
  rw [h1] at h2
  injection h2 with h2; injection h2 with h2 h4 _
  subst h2; subst h4
  exact h3 i hi m hm
/-- The object's box, whatever is made behind. -/
def OB (w X : World) (c : Oc) : Prop := Below (w.heap.size + 1) (w.alloc (.cells c.cells 33)) X
theorem OB.bel {w X : World} {c : Oc} (h : OB w X c) : Below w.heap.size w X := ((Below.refl w.heap.size w).alloc (Nat.le_refl _) _).trans (Below.mono h (by omega))
theorem OB.size {w X : World} {c : Oc} (h : OB w X c) : w.heap.size + 1 ≤ X.heap.size := by have := Below.size h; simpa using this
theorem OB.bx {w X : World} {c : Oc} (h : OB w X c) : OAt X w.heap.size c := box_at h
theorem all_not {n : Nat} {P : Nat → Bool} {i : Nat} (hi : i < n) (h : P i = false) : (List.range n).all P = false := by
  rw [List.all_eq_false]
  exact ⟨i, List.mem_range.2 hi, by rw [h]; decide⟩
theorem all_yes {n : Nat} {P : Nat → Bool} (h : ∀ i, i < n → P i = true) : (List.range n).all P = true := List.all_eq_true.2 fun i hi => h i (List.mem_range.1 hi)
theorem OB.drew {w X : World} {c : Oc} (h : OB w X c) : OB w X.drew c := Below.drew h
/-- Names that were put together. -/
structure NB (w X : World) (c : Oc) (s : Sl) (l : List ByteArray) : Prop where
  ob : OB w X c
  ow : X.ownsRow (w.heap.size + 1) 9 1 (.slice s.a s.n s.c) l.length (l.map Value.string)
theorem NB.app {w X : World} {c : Oc} {v : Value} {l : List ByteArray} (ho : OB w X c) (hv : X.ownsRow (w.heap.size + 1) 9 1 v l.length (l.map Value.string)) (x : ByteArray) (hl : l.length ≤ 1000) : ∃ (s : Sl) (Y : World), (appN #[28, 28] 28 #[v, .slice (some ⟨X.heap.size, 0, none⟩) 1 1]).run Try.prog (X.alloc (.cells #[.string x] 9)) = .ok (.slice s.a s.n s.c) Y ∧ Hid (NB w Y c s (l ++ [x])) := by
  have hs := ho.size
  obtain ⟨s, Y, h1, h2, h3⟩ := app_str x hv hs (by omega)
  refine ⟨s, Y, h1, (Below.alloc ho hs _).grown h3 (by simp; omega) (fun g hg => (hv.lt g hg).1), ?_⟩
  rw [List.length_append, List.map_append]
  exact h2
attribute [local go_sem ↓] appN_seal
set_option maxHeartbeats 40000000 in
set_option maxRecDepth 20000 in
theorem rplain_any (w : World) (c : Oc) (o : Ob) (h : ObR w c o) (him : o.imps.length ≤ 16) : Calls Try.prog 82 #[.agg c.cells] w fun e w' => e = .returned (.bool (plainB o)) ∧ Below w.heap.size w w' := by
  have O0 : Hid (OB w (w.alloc (.cells c.cells 33)) c) := hid_of (Below.refl _ _)
  have n_im : c.im.n = o.imps.length := h.im.len
  have m_im : c.im.n ≤ 140737488355328 := by rw [n_im]; exact h.im.most
  have C2 : Hid (∀ X, OB w X c → X.cell? ⟨w.heap.size, 2, none⟩ = some (.slice c.im.a c.im.n c.im.c)) := fun X a => blk_cell a.bx 2
  have n_co : c.co.n = o.code.length := h.co.len
  have m_co : c.co.n ≤ 140737488355328 := by rw [n_co]; exact h.co.most
  have C3 : Hid (∀ X, OB w X c → X.cell? ⟨w.heap.size, 3, none⟩ = some (.slice c.co.a c.co.n c.co.c)) := fun X a => blk_cell a.bx 3
  have n_pr : c.pr.n = o.procs.length := h.pr.len
  have m_pr : c.pr.n ≤ 140737488355328 := by rw [n_pr]; exact h.pr.most
  have C4 : Hid (∀ X, OB w X c → X.cell? ⟨w.heap.size, 4, none⟩ = some (.slice c.pr.a c.pr.n c.pr.c)) := fun X a => blk_cell a.bx 4
  have n_na : c.na.n = o.names.length := h.na.len
  have m_na : c.na.n ≤ 140737488355328 := by rw [n_na]; exact h.na.most
  have C5 : Hid (∀ X, OB w X c → X.cell? ⟨w.heap.size, 5, none⟩ = some (.slice c.na.a c.na.n c.na.c)) := fun X a => blk_cell a.bx 5
  have n_va : c.va.n = o.vars.length := h.va.len
  have m_va : c.va.n ≤ 140737488355328 := by rw [n_va]; exact h.va.most
  have C8 : Hid (∀ X, OB w X c → X.cell? ⟨w.heap.size, 8, none⟩ = some (.slice c.va.a c.va.n c.va.c)) := fun X a => blk_cell a.bx 8
  have n_sh : c.sh.n = o.shown.length := h.sh.len
  have m_sh : c.sh.n ≤ 140737488355328 := by rw [n_sh]; exact h.sh.most
  have C9 : Hid (∀ X, OB w X c → X.cell? ⟨w.heap.size, 9, none⟩ = some (.slice c.sh.a c.sh.n c.sh.c)) := fun X a => blk_cell a.bx 9
  have n_st : c.st.n = o.strs.length := h.st.len
  have m_st : c.st.n ≤ 140737488355328 := by rw [n_st]; exact h.st.most
  have C10 : Hid (∀ X, OB w X c → X.cell? ⟨w.heap.size, 10, none⟩ = some (.slice c.st.a c.st.n c.st.c)) := fun X a => blk_cell a.bx 10
  have C7 : Hid (∀ X, OB w X c → X.cell? ⟨w.heap.size, 7, none⟩ = some (.int .i64 o.ini)) := fun X a => by rw [← h.ini]; exact blk_cell a.bx 7
  have NA : Hid (∀ X s l, NB w X c s l → l = o.name :: o.imps.map (·.1) → Calls Try.prog 93 #[.slice s.a s.n s.c] X fun e Y => e = .returned (.bool (namesB (o.name :: o.imps.map (·.1)))) ∧ OB w Y c) := fun X s l a e => by
    subst e
    refine (rnames_any X s _ (own_rdv a.ow (by simp; omega)) (fun x hx => ?_)).mono fun e Y hh => ⟨hh.1, Below.trans a.ob (hh.2.mono a.ob.size)⟩
    rcases List.mem_cons.1 hx with rfl | hx
    · exact h.sz.1
    · obtain ⟨y, hy, rfl⟩ := List.mem_map.1 hx
      exact h.sz.2.1 y hy
  have NO : Hid (∀ X, OB w X c → Calls Try.prog 93 #[.slice c.na.a c.na.n c.na.c] X fun e Y => e = .returned (.bool (namesB o.names)) ∧ OB w Y c) := fun X a => (rnames_any X c.na o.names (h.na.below a.bel) h.sz.2.2.1).mono fun e Y hh => ⟨hh.1, Below.trans a (hh.2.mono a.size)⟩
  obtain ⟨P, hP⟩ : ∃ P, P = plainB o := ⟨_, rfl⟩
  rw [← hP]
  have PL : Hid (P = (namesB (o.name :: o.imps.map (·.1)) && namesB o.names && fromB o.ini c.co.n && ((List.range o.procs.length).all fun i => fromB (o.procs.getD i 0) c.co.n) && ((List.range o.vars.length).all fun i => sizeB (o.vars.getD i 0)) && ((List.range o.shown.length).all fun i => shownB c.va.n o.shown i (o.shown.getD i 0)) && ((List.range o.strs.length).all fun i => decide (((o.strs.getD i ⟨#[]⟩).size : Int) ≤ 200)))) := hid_of (by rw [hP, n_co, n_va]; rfl)
  clear hP
  generalize namesB (o.name :: o.imps.map (·.1)) = b1 at NA PL
  generalize namesB o.names = b2 at NO PL
  have HR : Hid (ObR w c o) := h
  have N0 : Hid ((w.alloc (.cells c.cells 33)).ownsRow (w.heap.size + 1) 9 1 (.slice none 0 0) ([] : List ByteArray).length (([] : List ByteArray).map Value.string)) := hid_of (World.ownsRow_nil _ _ _ _)
  obtain ⟨s0, w0, run0, H0⟩ := NB.app O0.out N0.out c.nm (by simp)
  rw [show (w.alloc (.cells c.cells 33)).heap.size = w.heap.size + 1 by simp] at run0
  have H0 : Hid (NB w w0 c s0 [o.name]) := hid_of (by rw [← h.nm]; exact H0.out)
  have b_im : c.im.n ≤ 16 := by rw [n_im]; exact him
  have HIM := hid_of n_im
  have HCO := hid_of n_co
  have HPR := hid_of n_pr
  have HVA := hid_of n_va
  have HSH := hid_of n_sh
  have HST := hid_of n_st
  clear h n_im n_co n_pr n_na n_va n_sh n_st him N0
  go_enter Try.func82, Try.ntmps82
  go_wp2
  go_loopg [3, 4] c.im.n (fun gf s3 s4 wx => ∃ (i : Nat) (s : Sl), s3 = .slice s.a s.n s.c ∧ s4 = .int .i64 (i : Int) ∧ i + gf = c.im.n ∧ Hid (NB w wx c s (o.name :: (o.imps.take i).map (·.1))))
  case atStart => exact ⟨0, s0, rfl, rfl, by omega, H0.out⟩
  case round =>
    clear H0 run0 O0
    obtain ⟨i, s, rfl, rfl, hi, HB⟩ := hrel
    have r2 := C2.out _ HB.out.ob
    by_cases hlt : i < c.im.n
    · obtain ⟨g', rfl⟩ : ∃ g', gk = g' + 1 := ⟨gk - 1, by omega⟩
      have d1 : decide ((i : Int) < (c.im.n : Int)) = true := decide_eq_true (by omega)
      have j0 : (0 : Int) ≤ (i : Int) := by omega
      have j1 : (i : Int) < (c.im.n : Int) := by omega
      have HI : Hid (i < o.imps.length) := hid_of (by rw [← HIM.out]; exact hlt)
      obtain ⟨b, off, ha, hc⟩ := elk HR.out.im (fun _ => rfl) (⟨#[]⟩, 0) i HI.out
      have e2 : wr.cell? ⟨b, off + i * 2, none⟩ = some (.string (o.imps.getD i (⟨#[]⟩, 0)).1) := hc wr HB.out.ob.bel 0 (by omega)
      rw [ha] at r2
      have HZ : Hid (∀ X s, NB w X c s ((o.name :: (o.imps.take i).map (·.1)) ++ [(o.imps.getD i (⟨#[]⟩, 0)).1]) → NB w X c s (o.name :: (o.imps.take (i + 1)).map (·.1))) := fun X s a => by
        rw [List.take_succ_eq_append_getElem HI.out, List.map_append, ← getD_at _ (⟨#[]⟩, 0) i HI.out]; exact a
      obtain ⟨s5, w5, run5, H5⟩ := NB.app HB.out.ob HB.out.ow (o.imps.getD i (⟨#[]⟩, 0)).1 (by have := HI.out; simp; omega)
      have H6 := hid_of (HZ.out _ _ H5.out)
      generalize (o.imps.getD i (⟨#[]⟩, 0)).1 = x at *
      clear H5 hc
      go_wp2
      go_roundg g'
      case measure => omega
      case rel => exact ⟨i + 1, s5, rfl, by simp, by omega, H6.out⟩
    · have d1 : decide ((i : Int) < (c.im.n : Int)) = false := decide_eq_false (by omega)
      have NE : Hid (o.name :: (o.imps.take i).map (·.1) = o.name :: o.imps.map (·.1)) := hid_of (by rw [List.take_of_length_le (by have := HIM.out; omega)])
      have A1 : Hid (Calls Try.prog 93 #[.slice s.a s.n s.c] wr _) := hid_of (NA.out _ _ _ HB.out NE.out)
      clear NA NE HB
      cases b1
      · have HX : Hid (P = false) := hid_of (by rw [PL.out]; simp)
        go_wp2_with (first
          | (have hz := H1; clear hz; go_at_call 93; refine (NO.out _ H1.out).mono ?_; rintro e w2 ⟨rfl, h2⟩; have H2 := hid_of h2; have q7 := C7.out _ h2; have q3 := C3.out _ h2; clear h2)
          | (go_at_call 93; refine A1.out.mono ?_; rintro e w1 ⟨rfl, h1⟩; have H1 := hid_of h1; have q5 := C5.out _ h1; clear h1))
        go_ret
        exact ⟨ret_bool HX.out.symm, H2.out.bel⟩
      cases b2
      · have HX : Hid (P = false) := hid_of (by rw [PL.out]; simp)
        go_wp2_with (first
          | (have hz := H1; clear hz; go_at_call 93; refine (NO.out _ H1.out).mono ?_; rintro e w2 ⟨rfl, h2⟩; have H2 := hid_of h2; have q7 := C7.out _ h2; have q3 := C3.out _ h2; clear h2)
          | (go_at_call 93; refine A1.out.mono ?_; rintro e w1 ⟨rfl, h1⟩; have H1 := hid_of h1; have q5 := C5.out _ h1; clear h1))
        go_ret
        exact ⟨ret_bool HX.out.symm, H2.out.bel⟩
      by_cases c1 : o.ini < 0
      · have f1 : decide (o.ini < 0) = true := decide_eq_true c1
        have HX : Hid (P = false) := hid_of (by rw [PL.out]; have : fromB o.ini c.co.n = false := (by unfold fromB; simp; omega); rw [this]; simp)
        go_wp2_with (first
          | (have hz := H1; clear hz; go_at_call 93; refine (NO.out _ H1.out).mono ?_; rintro e w2 ⟨rfl, h2⟩; have H2 := hid_of h2; have q7 := C7.out _ h2; have q3 := C3.out _ h2; clear h2)
          | (go_at_call 93; refine A1.out.mono ?_; rintro e w1 ⟨rfl, h1⟩; have H1 := hid_of h1; have q5 := C5.out _ h1; clear h1))
        go_ret
        exact ⟨ret_bool HX.out.symm, H2.out.bel⟩
      have f1 : decide (o.ini < 0) = false := decide_eq_false c1
      by_cases c2 : (c.co.n : Int) ≤ o.ini
      · have f2 : decide ((c.co.n : Int) ≤ o.ini) = true := decide_eq_true c2
        have HX : Hid (P = false) := hid_of (by rw [PL.out]; have : fromB o.ini c.co.n = false := (by unfold fromB; simp; omega); rw [this]; simp)
        go_wp2_with (first
          | (have hz := H1; clear hz; go_at_call 93; refine (NO.out _ H1.out).mono ?_; rintro e w2 ⟨rfl, h2⟩; have H2 := hid_of h2; have q7 := C7.out _ h2; have q3 := C3.out _ h2; clear h2)
          | (go_at_call 93; refine A1.out.mono ?_; rintro e w1 ⟨rfl, h1⟩; have H1 := hid_of h1; have q5 := C5.out _ h1; clear h1))
        go_ret
        exact ⟨ret_bool HX.out.symm, H2.out.bel⟩
      have f2 : decide ((c.co.n : Int) ≤ o.ini) = false := decide_eq_false c2
      have PL2 : Hid (P = (((List.range o.procs.length).all fun i => fromB (o.procs.getD i 0) c.co.n) && ((List.range o.vars.length).all fun i => sizeB (o.vars.getD i 0)) && ((List.range o.shown.length).all fun i => shownB c.va.n o.shown i (o.shown.getD i 0)) && ((List.range o.strs.length).all fun i => decide (((o.strs.getD i ⟨#[]⟩).size : Int) ≤ 200)))) := hid_of (by rw [PL.out]; have : fromB o.ini c.co.n = true := (by unfold fromB; simp; omega); rw [this]; simp)
      clear PL
      go_wp2_with (first
        | (have hz := H1; clear hz; go_at_call 93; refine (NO.out _ H1.out).mono ?_; rintro e w2 ⟨rfl, h2⟩; have H2 := hid_of h2; have q7 := C7.out _ h2; have q3 := C3.out _ h2; clear h2)
        | (go_at_call 93; refine A1.out.mono ?_; rintro e w1 ⟨rfl, h1⟩; have H1 := hid_of h1; have q5 := C5.out _ h1; clear h1))
      clear H1 A1 NO q5 q7 q3 f1 f2 c1 c2
      go_loopg [7] c.pr.n (fun gf s4 wx => ∃ i : Nat, s4 = .int .i64 (i : Int) ∧ i + gf = c.pr.n ∧ Hid (OB w wx c) ∧ Hid (∀ j, j < i → (fun i => fromB (o.procs.getD i 0) c.co.n) j = true))
      case atStart => exact ⟨0, rfl, by omega, H2.out, fun j hj => by omega⟩
      case round =>
        clear H2
        obtain ⟨i, rfl, hi, HB, HP⟩ := hrel
        have r4 := C4.out _ HB.out
        by_cases hlt : i < c.pr.n
        · obtain ⟨g', rfl⟩ : ∃ g', gk = g' + 1 := ⟨gk - 1, by omega⟩
          have d1 : decide ((i : Int) < (c.pr.n : Int)) = true := decide_eq_true (by omega)
          have j0 : (0 : Int) ≤ (i : Int) := by omega
          have j1 : (i : Int) < (c.pr.n : Int) := by omega
          have HI : Hid (i < o.procs.length) := hid_of (by rw [← HPR.out]; exact hlt)
          obtain ⟨b, off, ha, hc⟩ := el1 HR.out.pr 0 i HI.out
          have e2 := hc wr HB.out.bel
          rw [ha] at r4
          have HX : Hid (fromB (o.procs.getD i 0) c.co.n = false → P = false) := fun hx => by rw [PL2.out, all_not (P := fun i => fromB (o.procs.getD i 0) c.co.n) HI.out hx]; try simp
          have HY : Hid (fromB (o.procs.getD i 0) c.co.n = true → ∀ j, j < i + 1 → (fun i => fromB (o.procs.getD i 0) c.co.n) j = true) := fun hx j hj => by
            rcases Nat.lt_or_ge j i with q | q
            · exact HP.out j q
            · have : j = i := by omega
              rw [this]; exact hx
          have q3 := C3.out _ HB.out
          generalize o.procs.getD i 0 = x at e2 HX HY
          clear hc
          by_cases c1 : x < 0
          · have f1 : decide (x < 0) = true := decide_eq_true c1
            have HF := hid_of (HX.out (by show fromB x _ = false; unfold fromB; simp; omega))
            clear HX HY HP
            go_wp2
            go_region
            all_goals
              go_wp2
              go_ret
              exact ⟨ret_bool HF.out.symm, HB.out.bel.drew⟩
          have f1 : decide (x < 0) = false := decide_eq_false c1
          by_cases c2 : (c.co.n : Int) ≤ x
          · have f2 : decide ((c.co.n : Int) ≤ x) = true := decide_eq_true c2
            have HF := hid_of (HX.out (by show fromB x _ = false; unfold fromB; simp; omega))
            clear HX HY HP
            go_wp2
            go_region
            all_goals
              go_wp2
              go_ret
              exact ⟨ret_bool HF.out.symm, HB.out.bel.drew⟩
          have f2 : decide ((c.co.n : Int) ≤ x) = false := decide_eq_false c2
          have HG := hid_of (HY.out (by show fromB x _ = true; unfold fromB; simp; omega))
          clear HX HY HP
          go_wp2
          go_region
          all_goals
            go_wp2
            go_roundg g'
            case measure => omega
            case rel => exact ⟨i + 1, by simp, by omega, OB.drew HB.out, HG.out⟩
        · have d1 : decide ((i : Int) < (c.pr.n : Int)) = false := decide_eq_false (by omega)
          have PL3 : Hid (P = (((List.range o.vars.length).all fun i => sizeB (o.vars.getD i 0)) && ((List.range o.shown.length).all fun i => shownB c.va.n o.shown i (o.shown.getD i 0)) && ((List.range o.strs.length).all fun i => decide (((o.strs.getD i ⟨#[]⟩).size : Int) ≤ 200)))) := hid_of (by rw [PL2.out, all_yes fun j hj => HP.out j (by have := HPR.out; omega)]; simp)
          clear PL2 HP
          have PL2 := PL3
          clear PL3
          have prB := HB
          clear HB
          go_wp2
          go_loopg [8] c.va.n (fun gf s4 wx => ∃ i : Nat, s4 = .int .i64 (i : Int) ∧ i + gf = c.va.n ∧ Hid (OB w wx c) ∧ Hid (∀ j, j < i → (fun i => sizeB (o.vars.getD i 0)) j = true))
          case atStart => exact ⟨0, rfl, by omega, prB.out, fun j hj => by omega⟩
          case round =>
            clear prB
            obtain ⟨i, rfl, hi, HB, HP⟩ := hrel
            have r8 := C8.out _ HB.out
            by_cases hlt : i < c.va.n
            · obtain ⟨g', rfl⟩ : ∃ g', gk = g' + 1 := ⟨gk - 1, by omega⟩
              have d1 : decide ((i : Int) < (c.va.n : Int)) = true := decide_eq_true (by omega)
              have j0 : (0 : Int) ≤ (i : Int) := by omega
              have j1 : (i : Int) < (c.va.n : Int) := by omega
              have HI : Hid (i < o.vars.length) := hid_of (by rw [← HVA.out]; exact hlt)
              obtain ⟨b, off, ha, hc⟩ := el1 HR.out.va 0 i HI.out
              have e2 := hc wr HB.out.bel
              rw [ha] at r8
              have HX : Hid (sizeB (o.vars.getD i 0) = false → P = false) := fun hx => by rw [PL2.out, all_not (P := fun i => sizeB (o.vars.getD i 0)) HI.out hx]; try simp
              have HY : Hid (sizeB (o.vars.getD i 0) = true → ∀ j, j < i + 1 → (fun i => sizeB (o.vars.getD i 0)) j = true) := fun hx j hj => by
                rcases Nat.lt_or_ge j i with q | q
                · exact HP.out j q
                · have : j = i := by omega
                  rw [this]; exact hx
              generalize o.vars.getD i 0 = x at e2 HX HY
              clear hc
              by_cases c1 : x < 1
              · have f1 : decide (x < 1) = true := decide_eq_true c1
                have HF := hid_of (HX.out (by show sizeB x = false; unfold sizeB; simp; omega))
                clear HX HY HP
                go_wp2
                go_ret
                exact ⟨ret_bool HF.out.symm, HB.out.bel⟩
              have f1 : decide (x < 1) = false := decide_eq_false c1
              by_cases c2 : (16384 : Int) < x
              · have f2 : decide ((16384 : Int) < x) = true := decide_eq_true c2
                have HF := hid_of (HX.out (by show sizeB x = false; unfold sizeB; simp; omega))
                clear HX HY HP
                go_wp2
                go_ret
                exact ⟨ret_bool HF.out.symm, HB.out.bel⟩
              have f2 : decide ((16384 : Int) < x) = false := decide_eq_false c2
              have HG := hid_of (HY.out (by show sizeB x = true; unfold sizeB; simp; omega))
              clear HX HY HP
              go_wp2
              go_roundg g'
              case measure => omega
              case rel => exact ⟨i + 1, by simp, by omega, HB.out, HG.out⟩
            · have d1 : decide ((i : Int) < (c.va.n : Int)) = false := decide_eq_false (by omega)
              have PL3 : Hid (P = (((List.range o.shown.length).all fun i => shownB c.va.n o.shown i (o.shown.getD i 0)) && ((List.range o.strs.length).all fun i => decide (((o.strs.getD i ⟨#[]⟩).size : Int) ≤ 200)))) := hid_of (by rw [PL2.out, all_yes fun j hj => HP.out j (by have := HVA.out; omega)]; simp)
              clear PL2 HP
              have PL2 := PL3
              clear PL3
              have vaB := HB
              clear HB
              go_wp2
              go_loopg [9] c.sh.n (fun gf s4 wx => ∃ i : Nat, s4 = .int .i64 (i : Int) ∧ i + gf = c.sh.n ∧ Hid (OB w wx c) ∧ Hid (∀ j, j < i → (fun i => shownB c.va.n o.shown i (o.shown.getD i 0)) j = true))
              case atStart => exact ⟨0, rfl, by omega, vaB.out, fun j hj => by omega⟩
              case round =>
                clear vaB
                obtain ⟨i, rfl, hi, HB, HP⟩ := hrel
                have r9 := C9.out _ HB.out
                by_cases hlt : i < c.sh.n
                · obtain ⟨g', rfl⟩ : ∃ g', gk = g' + 1 := ⟨gk - 1, by omega⟩
                  have d1 : decide ((i : Int) < (c.sh.n : Int)) = true := decide_eq_true (by omega)
                  have j0 : (0 : Int) ≤ (i : Int) := by omega
                  have j1 : (i : Int) < (c.sh.n : Int) := by omega
                  have HI : Hid (i < o.shown.length) := hid_of (by rw [← HSH.out]; exact hlt)
                  obtain ⟨b, off, ha, hc⟩ := el1 HR.out.sh 0 i HI.out
                  have e2 := hc wr HB.out.bel
                  rw [ha] at r9
                  have HX : Hid (shownB c.va.n o.shown i (o.shown.getD i 0) = false → P = false) := fun hx => by rw [PL2.out, all_not (P := fun i => shownB c.va.n o.shown i (o.shown.getD i 0)) HI.out hx]; try simp
                  have HY : Hid (shownB c.va.n o.shown i (o.shown.getD i 0) = true → ∀ j, j < i + 1 → (fun i => shownB c.va.n o.shown i (o.shown.getD i 0)) j = true) := fun hx j hj => by
                    rcases Nat.lt_or_ge j i with q | q
                    · exact HP.out j q
                    · have : j = i := by omega
                      rw [this]; exact hx
                  have q8 := C8.out _ HB.out
                  have PV : Hid (∀ k, i = k + 1 → ∀ X, Below w.heap.size w X → X.cell? ⟨b, off + k, none⟩ = some (.int .i64 (o.shown.getD k 0))) := fun k hk X hX => by
                    obtain ⟨b2, off2, ha2, hc2⟩ := el1 HR.out.sh 0 k (by have := HI.out; omega)
                    rw [ha] at ha2
                    injection ha2 with ha2; injection ha2 with h3 h4 _
                    subst h3; subst h4
                    exact hc2 X hX
                  have SB : Hid (∀ x, o.shown.getD i 0 = x → shownB c.va.n o.shown i (o.shown.getD i 0) = shownB c.va.n o.shown i x) := fun x hx => by rw [← hx]
                  generalize hx : o.shown.getD i 0 = x at e2
                  have SB := hid_of (SB.out x hx)
                  rw [SB.out] at HX HY
                  clear hc SB hx
                  by_cases c1 : x < 0
                  · have f1 : decide (x < 0) = true := decide_eq_true c1
                    have HF := hid_of (HX.out (by unfold shownB fromB; simp; omega))
                    clear HX HY HP
                    go_wp2
                    go_region
                    all_goals
                      go_wp2
                      go_ret
                      exact ⟨ret_bool HF.out.symm, HB.out.bel.drew⟩
                  have f1 : decide (x < 0) = false := decide_eq_false c1
                  by_cases c2 : (c.va.n : Int) ≤ x
                  · have f2 : decide ((c.va.n : Int) ≤ x) = true := decide_eq_true c2
                    have HF := hid_of (HX.out (by unfold shownB fromB; simp; omega))
                    clear HX HY HP
                    go_wp2
                    go_region
                    all_goals
                      go_wp2
                      go_ret
                      exact ⟨ret_bool HF.out.symm, HB.out.bel.drew⟩
                  have f2 : decide ((c.va.n : Int) ≤ x) = false := decide_eq_false c2
                  by_cases hz : i = 0
                  · have z0 : decide ((0 : Int) < (i : Int)) = false := decide_eq_false (by omega)
                    have z1 : ¬ 0 < i := by omega
                    have z2 : decide (0 < i) = false := decide_eq_false z1
                    have HG := hid_of (HY.out (by unfold shownB fromB; simp; omega))
                    clear HX HY HP hz PV
                    go_wp2
                    go_region
                    all_goals
                      go_wp2
                      go_roundg g'
                      case measure => omega
                      case rel => exact ⟨i + 1, by simp, by omega, OB.drew HB.out, HG.out⟩
                  · obtain ⟨k, rfl⟩ : ∃ k, i = k + 1 := ⟨i - 1, by omega⟩
                    have kp := PV.out k rfl _ HB.out.bel
                    have z0 : decide ((0 : Int) < ((k + 1 : Nat) : Int)) = true := decide_eq_true (by omega)
                    have z1 : decide ((0 : Int) < (k : Int) + 1) = true := decide_eq_true (by omega)
                    have e1 : IntKind.i64.wrap (((k + 1 : Nat) : Int) - 1) = (k : Int) := by rw [IntWalk.i64_left, IntWalk.wrap64_in] <;> omega
                    have e2w : IntKind.i64.wrap (k : Int) = (k : Int) := by rw [IntWalk.i64_left, IntWalk.wrap64_in] <;> omega
                    have m0 : (0 : Int) ≤ (k : Int) := by omega
                    have m1 : (k : Int) < (c.sh.n : Int) := by omega
                    have m3 : (0 : Int) ≤ (k : Int) + 1 := by omega
                    have m4 : (k : Int) + 1 < (c.sh.n : Int) := by omega
                    have SH : Hid (shownB c.va.n o.shown (k + 1) x = (fromB x c.va.n && decide (o.shown.getD k 0 < x))) := hid_of (by unfold shownB; simp)
                    rw [SH.out] at HX HY
                    generalize o.shown.getD k 0 = y at kp HX HY
                    clear SH PV hz
                    by_cases c3 : x ≤ y
                    · have f3 : decide (x ≤ y) = true := decide_eq_true c3
                      have HF := hid_of (HX.out (by unfold fromB; simp; omega))
                      clear HX HY HP
                      go_wp2
                      go_region
                      all_goals
                        go_wp2
                        go_ret
                        exact ⟨ret_bool HF.out.symm, HB.out.bel.drew⟩
                    have f3 : decide (x ≤ y) = false := decide_eq_false c3
                    have HG := hid_of (HY.out (by unfold fromB; simp; omega))
                    clear HX HY HP
                    go_wp2
                    go_region
                    all_goals
                      go_wp2
                      go_roundg g'
                      case measure => omega
                      case rel => exact ⟨k + 1 + 1, by simp, by omega, OB.drew HB.out, HG.out⟩
                · have d1 : decide ((i : Int) < (c.sh.n : Int)) = false := decide_eq_false (by omega)
                  have PL3 : Hid (P = (((List.range o.strs.length).all fun i => decide (((o.strs.getD i ⟨#[]⟩).size : Int) ≤ 200)))) := hid_of (by rw [PL2.out, all_yes fun j hj => HP.out j (by have := HSH.out; omega)]; simp)
                  clear PL2 HP
                  have PL2 := PL3
                  clear PL3
                  have shB := HB
                  clear HB
                  go_wp2
                  go_loopg [10] c.st.n (fun gf s4 wx => ∃ i : Nat, s4 = .int .i64 (i : Int) ∧ i + gf = c.st.n ∧ Hid (OB w wx c) ∧ Hid (∀ j, j < i → (fun i => decide (((o.strs.getD i ⟨#[]⟩).size : Int) ≤ 200)) j = true))
                  case atStart => exact ⟨0, rfl, by omega, shB.out, fun j hj => by omega⟩
                  case round =>
                    clear shB
                    obtain ⟨i, rfl, hi, HB, HP⟩ := hrel
                    have r10 := C10.out _ HB.out
                    by_cases hlt : i < c.st.n
                    · obtain ⟨g', rfl⟩ : ∃ g', gk = g' + 1 := ⟨gk - 1, by omega⟩
                      have d1 : decide ((i : Int) < (c.st.n : Int)) = true := decide_eq_true (by omega)
                      have j0 : (0 : Int) ≤ (i : Int) := by omega
                      have j1 : (i : Int) < (c.st.n : Int) := by omega
                      have HI : Hid (i < o.strs.length) := hid_of (by rw [← HST.out]; exact hlt)
                      obtain ⟨b, off, ha, hc⟩ := el1 HR.out.st ⟨#[]⟩ i HI.out
                      have e2 := hc wr HB.out.bel
                      rw [ha] at r10
                      have HX : Hid (decide (((o.strs.getD i ⟨#[]⟩).size : Int) ≤ 200) = false → P = false) := fun hx => by rw [PL2.out, all_not (P := fun i => decide (((o.strs.getD i ⟨#[]⟩).size : Int) ≤ 200)) HI.out hx]; try simp
                      have HY : Hid (decide (((o.strs.getD i ⟨#[]⟩).size : Int) ≤ 200) = true → ∀ j, j < i + 1 → (fun i => decide (((o.strs.getD i ⟨#[]⟩).size : Int) ≤ 200)) j = true) := fun hx j hj => by
                        rcases Nat.lt_or_ge j i with q | q
                        · exact HP.out j q
                        · have : j = i := by omega
                          rw [this]; exact hx
                      have sz := HR.out.sz.2.2.2 (o.strs.getD i ⟨#[]⟩) (by rw [getD_at _ _ i HI.out]; exact List.getElem_mem HI.out)
                      generalize o.strs.getD i ⟨#[]⟩ = x at e2 HX HY sz
                      clear hc
                      by_cases c1 : (200 : Int) < (x.size : Int)
                      · have f1 : decide ((200 : Int) < (x.size : Int)) = true := decide_eq_true c1
                        have f1b : 200 < x.size := by omega
                        have HF := hid_of (HX.out (by show decide ((x.size : Int) ≤ 200) = false; exact decide_eq_false (by omega)))
                        clear HX HY HP
                        go_wp2
                        go_ret
                        exact ⟨ret_bool HF.out.symm, HB.out.bel⟩
                      have f1 : decide ((200 : Int) < (x.size : Int)) = false := decide_eq_false c1
                      have f1b : ¬ 200 < x.size := by omega
                      have HG := hid_of (HY.out (by show decide ((x.size : Int) ≤ 200) = true; exact decide_eq_true (by omega)))
                      clear HX HY HP
                      go_wp2
                      go_roundg g'
                      case measure => omega
                      case rel => exact ⟨i + 1, by simp, by omega, HB.out, HG.out⟩
                    · have d1 : decide ((i : Int) < (c.st.n : Int)) = false := decide_eq_false (by omega)
                      have HX : Hid (P = true) := hid_of (by rw [PL2.out]; exact all_yes fun j hj => HP.out j (by have := HST.out; omega))
                      go_wp2
                      go_ret
                      exact ⟨ret_bool HX.out.symm, HB.out.bel⟩
end Go.Proofs.Ytepgifapepaheaa
