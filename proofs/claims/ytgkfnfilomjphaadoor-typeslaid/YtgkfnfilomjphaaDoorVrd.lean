/-
  Layer 11: a list is read as a row.
-/
import Derived.Test.YtgkfnfilomjphaaDoorVre
import Derived.Scope
namespace Go.Proofs.YtgkfnfilomjphaaDoor
set_option linter.unusedVariables false
set_option linter.unusedSimpArgs false
open Go.ChangeShapes Go.WideShapes Go.ChangeAt Go.RowKit Go.Maps
attribute [local go_sem ↓] ldY_seal stY_seal ldF_seal stF_seal mkN_seal appN_seal

theorem infoY : ∃ i : TypeInfo, Tryd.prog.info? 31 = some i ∧ i.zero = some (.agg ZT) ∧ i.size = 7 ∧ i.bytes = 72 := by
  have h : (match Tryd.prog.info? 31 with | some i => decide (i.bytes = 72) && decide (i.size = 7) | none => false) = true := by kernel_rfl
  have h2 : (Tryd.prog.info? 31).bind (·.zero) = some (.agg ZT) := by kernel_rfl
  cases hi : Tryd.prog.info? 31 with
  | none => rw [hi] at h; cases h
  | some i =>
    rw [hi] at h h2
    simp only [Bool.and_eq_true, decide_eq_true_eq] at h
    exact ⟨i, rfl, h2, h.2, h.1⟩
theorem infoI : ∃ i : TypeInfo, Tryd.prog.info? 3 = some i ∧ i.zero = some (.int .i64 0) ∧ i.size = 1 ∧ i.bytes = 8 := by
  have h : (match Tryd.prog.info? 3 with | some i => decide (i.bytes = 8) && decide (i.size = 1) | none => false) = true := by kernel_rfl
  have h2 : (Tryd.prog.info? 3).bind (·.zero) = some (.int .i64 0) := by kernel_rfl
  cases hi : Tryd.prog.info? 3 with
  | none => rw [hi] at h; cases h
  | some i =>
    rw [hi] at h h2
    simp only [Bool.and_eq_true, decide_eq_true_eq] at h
    exact ⟨i, rfl, h2, h.2, h.1⟩
theorem infoM : ∃ i : TypeInfo, Tryd.prog.info? 76 = some i ∧ i.zero = some (.map none) ∧ i.size = 1 ∧ i.bytes = 8 := by
  have h : (match Tryd.prog.info? 76 with | some i => decide (i.bytes = 8) && decide (i.size = 1) | none => false) = true := by kernel_rfl
  have h2 : (Tryd.prog.info? 76).bind (·.zero) = some (.map none) := by kernel_rfl
  cases hi : Tryd.prog.info? 76 with
  | none => rw [hi] at h; cases h
  | some i =>
    rw [hi] at h h2
    simp only [Bool.and_eq_true, decide_eq_true_eq] at h
    exact ⟨i, rfl, h2, h.2, h.1⟩
/-- Where a read row begins. -/
theorem ro_start {w0 X : World} {b p q r : Nat} {s : Sl} {L : List Tt} {C1 C2 C3 : Array Value} (hl : RdV w0 7 s L.length (flat ttE L)) (hlf : ∀ t ∈ L, RdV w0 3 t.sl t.fs.length (flat fdE t.fs)) (hm : L.length + 1 ≤ maxLen) (z1 : C1.size = (L.length + 1) * 7) (z2 : C2.size = (L.length + 1) * 1) (z3 : C3.size = (L.length + 1) * 1)
    (be : Below w0.heap.size w0 X) (hb : w0.heap.size ≤ b) (hp : w0.heap.size ≤ p) (hq : w0.heap.size ≤ q) (hr : w0.heap.size ≤ r) (h1 : X.heap[p]? = some (.cells C1 31 (0, 0))) (h2 : X.heap[q]? = some (.cells C2 3 (0, 0))) (h3 : X.heap[r]? = some (.cells C3 76 (0, 0)))
    (h4 : X.heap[b]? = some (.cells #[.slice s.a s.n s.c, .slice (some ⟨p, 0, none⟩) 0 (L.length + 1), .slice (some ⟨q, 0, none⟩) 0 (L.length + 1), .slice (some ⟨r, 0, none⟩) (L.length + 1) (L.length + 1)] 56 (0, 0))) : ∃ c, c.li = s ∧ RwO w0 X b c L [] C3.toList r := by
  refine ⟨⟨s, ⟨some ⟨p, 0, none⟩, 0, L.length + 1⟩, ⟨some ⟨q, 0, none⟩, 0, L.length + 1⟩, ⟨some ⟨r, 0, none⟩, L.length + 1, L.length + 1⟩⟩, rfl, be, hl, hlf, h4, hb, ?_, ?_, ?_, rfl, ?_, ?_, fnd_nil L⟩
  · exact ⟨by simp [flat], .inr ⟨p, _, C1, rfl, hp, h1, Nat.zero_le _, hm, z1, by simp [flat]⟩⟩
  · exact ⟨by simp [flat, alL], .inr ⟨q, _, C2, rfl, hq, h2, Nat.zero_le _, hm, z2, by simp [flat, alL]⟩⟩
  · rw [flat_vE]
    exact ⟨by simpa using z3, .inr ⟨r, _, C3, rfl, hr, h3, Nat.le_refl _, hm, z3, List.take_of_length_le (by simpa using Nat.le_of_eq z3)⟩⟩
  · intro k hk h2
    simp at h2
  · intro t ht
    cases ht
theorem al4 (w : World) (a b c d : Obj) : ((((w.alloc a).alloc b).alloc c).alloc d).drew.heap[w.heap.size]? = some a ∧ ((((w.alloc a).alloc b).alloc c).alloc d).drew.heap[w.heap.size + 1]? = some b ∧ ((((w.alloc a).alloc b).alloc c).alloc d).drew.heap[w.heap.size + 1 + 1]? = some c ∧ ((((w.alloc a).alloc b).alloc c).alloc d).drew.heap[w.heap.size + 1 + 1 + 1]? = some d := by
  have s1 : (w.alloc a).heap.size = w.heap.size + 1 := by simp
  have s2 : ((w.alloc a).alloc b).heap.size = w.heap.size + 1 + 1 := by simp
  have s3 : (((w.alloc a).alloc b).alloc c).heap.size = w.heap.size + 1 + 1 + 1 := by simp
  refine ⟨?_, ?_, ?_, ?_⟩
  · exact (Below.heap_alloc _ d _ (by rw [s3]; omega)).trans ((Below.heap_alloc _ c _ (by rw [s2]; omega)).trans ((Below.heap_alloc _ b _ (by rw [s1]; omega)).trans (blk_new w a)))
  · have := blk_new (w.alloc a) b
    rw [s1] at this
    exact (Below.heap_alloc _ d _ (by rw [s3]; omega)).trans ((Below.heap_alloc _ c _ (by rw [s2]; omega)).trans this)
  · have := blk_new ((w.alloc a).alloc b) c
    rw [s2] at this
    exact (Below.heap_alloc _ d _ (by rw [s3]; omega)).trans this
  · have := blk_new (((w.alloc a).alloc b).alloc c) d
    rw [s3] at this
    exact this
def PostRd (w0 : World) (L : List Tt) (s : Sl) (e : Ending) (w' : World) : Prop := ∃ b c T M g, e = .returned (.tuple #[.pointer (some ⟨b, 0, none⟩), .bool (readB L)]) ∧ c.li = s ∧ RwO w0 w' b c L T M g ∧ (readB L = true → T.length = L.length)
/-- A type, copied into a box. -/
theorem box_tt {v W : World} {s : Sl} {xs : List Tt} (h : RdV v 7 s xs.length (flat ttE xs)) (hb : Below v.heap.size v W) (i : Nat) (hi : i < xs.length) : ∃ g off Z cc, s.a = some ⟨g, off, none⟩ ∧ (ldT 31 ⟨g, off + i * 7, none⟩).run Tryd.prog W = .ok (.agg cc) W ∧ (stT 31 ⟨W.heap.size, 0, none⟩ (.agg cc)).run Tryd.prog (W.alloc (.cells ZT 31)) = .ok () Z ∧ BA Z W.heap.size 31 (ttE xs[i]) ∧ Hid (Below W.heap.size W Z) := by
  obtain ⟨g, off, ha, hg, hc⟩ := (h.below hb).elem (fun _ => rfl) i hi
  have hl0 := ldT_mid (ty := 31) hc Tryd.underlying31 rfl (by kernel_rfl)
  obtain ⟨Z, z1, z2, z3⟩ := stT_run (w := W.alloc (.cells ZT 31)) (ttE xs[i]) (BA.new W _ ZT) rfl (by kernel_rfl) (tt_one _)
  have hg := gb_put z3
  exact ⟨g, off, Z, _, ha, hl0, z1, z2, hid_of ⟨hg.os, hg.tape, hg.output, hg.size, fun k hk => hg.block k hk (by simp)⟩⟩
theorem plain_arr (T : List Tt) (A : List Int) (n el : Int) : (arrP T A n el).1.sl = ⟨none, 0, 0⟩ ∧ (arrP T A n el).1.fs = [] ∧ (arrP T A n el).1.fm ≠ 10 := by
  unfold arrP heldP
  split
  · exact ⟨rfl, rfl, by decide⟩
  · split
    · exact ⟨rfl, rfl, by decide⟩
    · exact ⟨rfl, rfl, by simp [arrT]⟩
theorem plain_open (T : List Tt) (A : List Int) (el : Int) : (openP T A el).1.sl = ⟨none, 0, 0⟩ ∧ (openP T A el).1.fs = [] ∧ (openP T A el).1.fm ≠ 10 := by
  unfold openP
  split
  · exact ⟨rfl, rfl, by simp⟩
  · exact ⟨rfl, rfl, by decide⟩
theorem plain_ptr (L : List Tt) (el : Int) : (ptrP L el).1.sl = ⟨none, 0, 0⟩ ∧ (ptrP L el).1.fs = [] ∧ (ptrP L el).1.fm ≠ 10 := by
  unfold ptrP
  split
  · exact ⟨rfl, rfl, by simp [ptrT]⟩
  · exact ⟨rfl, rfl, by decide⟩
theorem RdM.call {w0 X Y : World} {b : Nat} {c : Rc} {L T : List Tt} {M : List Value} {g mb tb : Nat} {t m : Tt} {e : Int} (h : RdM w0 X b c L T M g mb tb t m e) (hb : Below X.heap.size X Y) : RdM w0 Y b c L T M g mb tb t m e :=
  ⟨h.ro.call hb, h.bm.below hb, h.bt.below hb, h.ne, own_belowH h.fo hb, h.md, fun h1 h2 hk => by obtain ⟨q, h3, h4⟩ := h.mp h1 h2 hk; exact ⟨q, h3, h4.call hb⟩⟩
theorem made_fs {L T : List Tt} {A : List Int} {k : Nat} {t m : Tt} {e : Int} (hm : madeC L T A k t = some (m, e)) : m.fs.length ≤ 200 := by
  unfold madeC at hm
  split at hm
  · injection hm with hm
    injection hm with hm _
    subst hm
    simp [basT]
  · split at hm
    · injection hm with hm
      have := (plain_arr T A t.ln t.el).2.1
      rw [hm] at this
      rw [this]
      simp
    · split at hm
      · injection hm with hm
        have := (plain_open T A t.el).2.1
        rw [hm] at this
        rw [this]
        simp
      · split at hm
        · injection hm with hm
          unfold recP heldP at hm
          split at hm
          · rename_i hr
            split at hm
            · injection hm with hm _
              subst hm
              simp [zeroT]
            · injection hm with hm _
              subst hm
              unfold recOk at hr
              simp only [Bool.and_eq_true, decide_eq_true_eq] at hr
              simp only [recT, layF_len]
              exact hr.2.1
          · injection hm with hm _
            subst hm
            simp [zeroT]
        · split at hm
          · injection hm with hm
            have := (plain_ptr L t.el).2.1
            rw [hm] at this
            rw [this]
            simp
          · cases hm
set_option maxRecDepth 100000 in
set_option maxHeartbeats 16000000 in
theorem read_any (w0 : World) (hv : Vs w0) (s : Sl) (L : List Tt) (hl : RdV w0 7 s L.length (flat ttE L)) (hlf : ∀ t ∈ L, RdV w0 3 t.sl t.fs.length (flat fdE t.fs)) (hnm : ∀ t ∈ L, ∀ f ∈ t.fs, f.nm.size ≤ maxLen) (hLl : L.length ≤ 1954687338267) : Calls Tryd.prog 15 #[.slice s.a s.n s.c] w0 (PostRd w0 L s) := by
  obtain ⟨q1, q2, q3⟩ := s
  have hsl := hl.len
  dsimp only at hsl
  subst hsl
  have hw1 : IntKind.i64.wrap ((L.length : Int) + 1) = ((L.length + 1 : Nat) : Int) := by rw [IntWalk.i64_left, IntWalk.wrap64_in] <;> omega
  have hw2 : wrap64 ((L.length : Int) + 1) = ((L.length + 1 : Nat) : Int) := by rw [IntWalk.wrap64_in] <;> omega
  obtain ⟨N, hN⟩ : ∃ N, N = L.length + 1 := ⟨_, rfl⟩
  rw [← hN] at hw1 hw2
  have hmx : N ≤ maxLen := by unfold maxLen; omega
  obtain ⟨iY, y1, y2, y3, y4⟩ := infoY
  obtain ⟨iI, i1, i2, i3, i4⟩ := infoI
  obtain ⟨iM, m1, m2, m3, m4⟩ := infoM
  obtain ⟨C1, hC1⟩ : ∃ C, C = madeCells ZT (N * 7) := ⟨_, rfl⟩
  obtain ⟨C2, hC2⟩ : ∃ C, C = madeCells #[.int .i64 0] (N * 1) := ⟨_, rfl⟩
  obtain ⟨C3, hC3⟩ : ∃ C, C = madeCells #[.map none] (N * 1) := ⟨_, rfl⟩
  have k1 : ∀ X, (mkN 22 (.int .i64 0) (.int .i64 (N : Int))).run Tryd.prog X = .ok (.slice (some ⟨X.heap.size, 0, none⟩) 0 N) (X.alloc (.cells C1 31)) := fun X => by
    have h := run_make (P := Tryd.prog) X 22 31 iY _ Tryd.underlying22 y1 y2 .i64 .i64 0 (N : Int) (Int.le_refl _) (by omega) (by rw [y4]; omega) (by omega)
    simp only [Int.toNat_zero, Int.toNat_natCast, y3] at h
    rw [hC1]
    exact h
  have k2 : ∀ X, (mkN 24 (.int .i64 0) (.int .i64 (N : Int))).run Tryd.prog X = .ok (.slice (some ⟨X.heap.size, 0, none⟩) 0 N) (X.alloc (.cells C2 3)) := fun X => by
    have h := run_make (P := Tryd.prog) X 24 3 iI _ Tryd.underlying24 i1 i2 .i64 .i64 0 (N : Int) (Int.le_refl _) (by omega) (by rw [i4]; omega) (by omega)
    simp only [Int.toNat_zero, Int.toNat_natCast, i3] at h
    rw [hC2]
    exact h
  have k3 : ∀ X, (mkN 54 (.int .i64 (N : Int)) (.int .i64 (N : Int))).run Tryd.prog X = .ok (.slice (some ⟨X.heap.size, 0, none⟩) N N) (X.alloc (.cells C3 76)) := fun X => by
    have h := run_make (P := Tryd.prog) X 54 76 iM _ Tryd.underlying54 m1 m2 .i64 .i64 (N : Int) (N : Int) (by omega) (by omega) (by rw [m4]; omega) (by omega)
    simp only [Int.toNat_natCast, m3] at h
    rw [hC3]
    exact h
  have z1 : C1.size = N * 7 := by rw [hC1]; exact size_madeCells _ _
  have z2 : C2.size = N * 1 := by rw [hC2]; exact size_madeCells _ _
  have z3 : C3.size = N * 1 := by rw [hC3]; exact size_madeCells _ _
  have ST : Hid (∀ X b p q r, Below w0.heap.size w0 X → w0.heap.size ≤ b → w0.heap.size ≤ p → w0.heap.size ≤ q → w0.heap.size ≤ r → X.heap[p]? = some (.cells C1 31 (0, 0)) → X.heap[q]? = some (.cells C2 3 (0, 0)) → X.heap[r]? = some (.cells C3 76 (0, 0)) → X.heap[b]? = some (.cells #[.slice q1 L.length q3, .slice (some ⟨p, 0, none⟩) 0 N, .slice (some ⟨q, 0, none⟩) 0 N, .slice (some ⟨r, 0, none⟩) N N] 56 (0, 0)) → ∃ c M g, c.li = ⟨q1, L.length, q3⟩ ∧ RwO w0 X b c L [] M g) := hid_of (by
    intro X b p q r e1 e2 e3 e4 e5 e6 e7 e8 e9
    rw [hN] at e9 z1 z2 z3 hmx
    obtain ⟨c, h1, h2⟩ := ro_start hl hlf hmx z1 z2 z3 e1 e2 e3 e4 e5 e6 e7 e8 e9
    exact ⟨c, _, r, h1, h2⟩)
  have HLF := hid_of hlf
  have HNM := hid_of hnm
  have HL := hid_of hl
  have HLl := hid_of hLl
  have HV := hid_of hv
  have HN := hid_of hN
  clear hlf hnm hl hLl hv hC1 hC2 hC3 y1 y2 y3 y4 i1 i2 i3 i4 m1 m2 m3 m4 z1 z2 z3 hmx hN
  go_enter Tryd.func15, Tryd.ntmps15
  go_wp2_with fail
  refine wp_scope_straight ?_
  go_upto_region 2 with fail
  go_cut [5] (fun s5 X => ∃ b, s5 = .pointer (some ⟨b, 0, none⟩) ∧ Hid (∃ c M g, c.li = ⟨q1, L.length, q3⟩ ∧ RwO w0 X b c L [] M g))
  case first =>
    refine wp_region_held_drew (S := fun _ => True) (by kernel_rfl) trivial (fun hHeld => ?_)
    refine wpAnyH_take (i := 0) (v := ?_) rfl (by kernel_rfl) (by kernel_rfl) (by kernel_rfl) (fun _ _ _ h => h) (Or.inl ⟨by kernel_rfl, ?y0a⟩) hHeld ?r0a
    case y0a => (intro wq hSw; go_simp; try rfl)
    simp only [Act.put, List.setIfInBounds_toArray, List.set_cons_zero, List.set_cons_succ]
    refine wpAnyH_take (i := 1) (v := ?_) rfl (by kernel_rfl) (by kernel_rfl) (by kernel_rfl) (fun _ _ _ h => h) (Or.inl ⟨by kernel_rfl, ?y1a⟩) hHeld ?r1a
    case y1a => (intro wq hSw; go_simp; try rfl)
    simp only [Act.put, List.setIfInBounds_toArray, List.set_cons_zero, List.set_cons_succ]
    refine wpAnyH_take (i := 3) (v := ?_) rfl (by kernel_rfl) (by kernel_rfl) (by kernel_rfl) (fun _ _ _ h => h) (Or.inl ⟨by kernel_rfl, ?y3a⟩) hHeld ?r3a
    case y3a => (intro wq hSw; go_simp; try rfl)
    simp only [Act.put, List.setIfInBounds_toArray, List.set_cons_zero, List.set_cons_succ]
    refine wpAnyH_take (i := 5) (v := ?_) rfl (by kernel_rfl) (by kernel_rfl) (by kernel_rfl) (fun _ _ _ h => h) (Or.inl ⟨by kernel_rfl, ?y5a⟩) hHeld ?r5a
    case y5a => (intro wq hSw; go_simp; try rfl)
    simp only [Act.put, List.setIfInBounds_toArray, List.set_cons_zero, List.set_cons_succ]
    refine wpAnyH_ready (rs := [2, 4, 6]) (by kernel_rfl) (by simp) ?_
    refine AllReadyH.cons rfl (fun K hK => ?_) (AllReadyH.cons rfl (fun K hK => ?_) (AllReadyH.cons rfl (fun K hK => ?_) AllReadyH.nil))
    · go_simp
      refine hK.out _ _ trivial (fun _ => ?_)
      clear hK K
      refine wpAnyH_ready (rs := [4, 6]) (by kernel_rfl) (by simp) ?_
      refine AllReadyH.cons rfl (fun K hK => ?_) (AllReadyH.cons rfl (fun K hK => ?_) AllReadyH.nil)
      · go_simp
        refine hK.out _ _ trivial (fun _ => ?_)
        clear hK K
        refine wpAnyH_ready (rs := [6]) (by kernel_rfl) (by simp) ?_
        refine AllReadyH.cons rfl (fun K hK => ?_) AllReadyH.nil
        go_simp
        refine hK.out _ _ trivial (fun _ => ?_)
        clear hK K
        refine wpAnyH_ready (rs := [7]) (by kernel_rfl) (by simp) ?_
        refine AllReadyH.cons rfl (fun K hK => ?_) AllReadyH.nil
        go_simp
        refine hK.out _ _ trivial (fun _ => ?_)
        clear hK K
        refine wpAnyH_ready (rs := [8]) (by kernel_rfl) (by simp) ?_
        refine AllReadyH.cons rfl (fun K hK => ?_) AllReadyH.nil
        go_simp
        refine hK.out _ _ trivial (fun _ => ?_)
        clear hK K
        refine wpAnyH_ready (rs := [9]) (by kernel_rfl) (by simp) ?_
        refine AllReadyH.cons rfl (fun K hK => ?_) AllReadyH.nil
        go_simp
        refine hK.out _ _ trivial (fun _ => ?_)
        clear hK K
        refine wpAnyH_done (by kernel_rfl) ?_ _
        go_wp2_with fail
        go_meet
        refine ⟨_, rfl, ?_⟩
        refine hid_of (ST.out _ (w0.heap.size + 1 + 1 + 1) (w0.heap.size) (w0.heap.size + 1) (w0.heap.size + 1 + 1) ?_ (by omega) (by omega) (by omega) (by omega) ?_ ?_ ?_ ?_)
        · go_grown
        all_goals first | exact (al4 _ _ _ _ _).1 | exact (al4 _ _ _ _ _).2.1 | exact (al4 _ _ _ _ _).2.2.1 | exact (al4 _ _ _ _ _).2.2.2
      · go_simp
        refine hK.out _ _ trivial (fun _ => ?_)
        clear hK K
        refine wpAnyH_ready (rs := [4]) (by kernel_rfl) (by simp) ?_
        refine AllReadyH.cons rfl (fun K hK => ?_) AllReadyH.nil
        go_simp
        refine hK.out _ _ trivial (fun _ => ?_)
        clear hK K
        refine wpAnyH_ready (rs := [7]) (by kernel_rfl) (by simp) ?_
        refine AllReadyH.cons rfl (fun K hK => ?_) AllReadyH.nil
        go_simp
        refine hK.out _ _ trivial (fun _ => ?_)
        clear hK K
        refine wpAnyH_ready (rs := [8]) (by kernel_rfl) (by simp) ?_
        refine AllReadyH.cons rfl (fun K hK => ?_) AllReadyH.nil
        go_simp
        refine hK.out _ _ trivial (fun _ => ?_)
        clear hK K
        refine wpAnyH_ready (rs := [9]) (by kernel_rfl) (by simp) ?_
        refine AllReadyH.cons rfl (fun K hK => ?_) AllReadyH.nil
        go_simp
        refine hK.out _ _ trivial (fun _ => ?_)
        clear hK K
        refine wpAnyH_done (by kernel_rfl) ?_ _
        go_wp2_with fail
        go_meet
        refine ⟨_, rfl, ?_⟩
        refine hid_of (ST.out _ (w0.heap.size + 1 + 1 + 1) (w0.heap.size) (w0.heap.size + 1 + 1) (w0.heap.size + 1) ?_ (by omega) (by omega) (by omega) (by omega) ?_ ?_ ?_ ?_)
        · go_grown
        all_goals first | exact (al4 _ _ _ _ _).1 | exact (al4 _ _ _ _ _).2.1 | exact (al4 _ _ _ _ _).2.2.1 | exact (al4 _ _ _ _ _).2.2.2
    · go_simp
      refine hK.out _ _ trivial (fun _ => ?_)
      clear hK K
      refine wpAnyH_ready (rs := [2, 6]) (by kernel_rfl) (by simp) ?_
      refine AllReadyH.cons rfl (fun K hK => ?_) (AllReadyH.cons rfl (fun K hK => ?_) AllReadyH.nil)
      · go_simp
        refine hK.out _ _ trivial (fun _ => ?_)
        clear hK K
        refine wpAnyH_ready (rs := [6]) (by kernel_rfl) (by simp) ?_
        refine AllReadyH.cons rfl (fun K hK => ?_) AllReadyH.nil
        go_simp
        refine hK.out _ _ trivial (fun _ => ?_)
        clear hK K
        refine wpAnyH_ready (rs := [7]) (by kernel_rfl) (by simp) ?_
        refine AllReadyH.cons rfl (fun K hK => ?_) AllReadyH.nil
        go_simp
        refine hK.out _ _ trivial (fun _ => ?_)
        clear hK K
        refine wpAnyH_ready (rs := [8]) (by kernel_rfl) (by simp) ?_
        refine AllReadyH.cons rfl (fun K hK => ?_) AllReadyH.nil
        go_simp
        refine hK.out _ _ trivial (fun _ => ?_)
        clear hK K
        refine wpAnyH_ready (rs := [9]) (by kernel_rfl) (by simp) ?_
        refine AllReadyH.cons rfl (fun K hK => ?_) AllReadyH.nil
        go_simp
        refine hK.out _ _ trivial (fun _ => ?_)
        clear hK K
        refine wpAnyH_done (by kernel_rfl) ?_ _
        go_wp2_with fail
        go_meet
        refine ⟨_, rfl, ?_⟩
        refine hid_of (ST.out _ (w0.heap.size + 1 + 1 + 1) (w0.heap.size + 1) (w0.heap.size) (w0.heap.size + 1 + 1) ?_ (by omega) (by omega) (by omega) (by omega) ?_ ?_ ?_ ?_)
        · go_grown
        all_goals first | exact (al4 _ _ _ _ _).1 | exact (al4 _ _ _ _ _).2.1 | exact (al4 _ _ _ _ _).2.2.1 | exact (al4 _ _ _ _ _).2.2.2
      · go_simp
        refine hK.out _ _ trivial (fun _ => ?_)
        clear hK K
        refine wpAnyH_ready (rs := [2]) (by kernel_rfl) (by simp) ?_
        refine AllReadyH.cons rfl (fun K hK => ?_) AllReadyH.nil
        go_simp
        refine hK.out _ _ trivial (fun _ => ?_)
        clear hK K
        refine wpAnyH_ready (rs := [7]) (by kernel_rfl) (by simp) ?_
        refine AllReadyH.cons rfl (fun K hK => ?_) AllReadyH.nil
        go_simp
        refine hK.out _ _ trivial (fun _ => ?_)
        clear hK K
        refine wpAnyH_ready (rs := [8]) (by kernel_rfl) (by simp) ?_
        refine AllReadyH.cons rfl (fun K hK => ?_) AllReadyH.nil
        go_simp
        refine hK.out _ _ trivial (fun _ => ?_)
        clear hK K
        refine wpAnyH_ready (rs := [9]) (by kernel_rfl) (by simp) ?_
        refine AllReadyH.cons rfl (fun K hK => ?_) AllReadyH.nil
        go_simp
        refine hK.out _ _ trivial (fun _ => ?_)
        clear hK K
        refine wpAnyH_done (by kernel_rfl) ?_ _
        go_wp2_with fail
        go_meet
        refine ⟨_, rfl, ?_⟩
        refine hid_of (ST.out _ (w0.heap.size + 1 + 1 + 1) (w0.heap.size + 1 + 1) (w0.heap.size) (w0.heap.size + 1) ?_ (by omega) (by omega) (by omega) (by omega) ?_ ?_ ?_ ?_)
        · go_grown
        all_goals first | exact (al4 _ _ _ _ _).1 | exact (al4 _ _ _ _ _).2.1 | exact (al4 _ _ _ _ _).2.2.1 | exact (al4 _ _ _ _ _).2.2.2
    · go_simp
      refine hK.out _ _ trivial (fun _ => ?_)
      clear hK K
      refine wpAnyH_ready (rs := [2, 4]) (by kernel_rfl) (by simp) ?_
      refine AllReadyH.cons rfl (fun K hK => ?_) (AllReadyH.cons rfl (fun K hK => ?_) AllReadyH.nil)
      · go_simp
        refine hK.out _ _ trivial (fun _ => ?_)
        clear hK K
        refine wpAnyH_ready (rs := [4]) (by kernel_rfl) (by simp) ?_
        refine AllReadyH.cons rfl (fun K hK => ?_) AllReadyH.nil
        go_simp
        refine hK.out _ _ trivial (fun _ => ?_)
        clear hK K
        refine wpAnyH_ready (rs := [7]) (by kernel_rfl) (by simp) ?_
        refine AllReadyH.cons rfl (fun K hK => ?_) AllReadyH.nil
        go_simp
        refine hK.out _ _ trivial (fun _ => ?_)
        clear hK K
        refine wpAnyH_ready (rs := [8]) (by kernel_rfl) (by simp) ?_
        refine AllReadyH.cons rfl (fun K hK => ?_) AllReadyH.nil
        go_simp
        refine hK.out _ _ trivial (fun _ => ?_)
        clear hK K
        refine wpAnyH_ready (rs := [9]) (by kernel_rfl) (by simp) ?_
        refine AllReadyH.cons rfl (fun K hK => ?_) AllReadyH.nil
        go_simp
        refine hK.out _ _ trivial (fun _ => ?_)
        clear hK K
        refine wpAnyH_done (by kernel_rfl) ?_ _
        go_wp2_with fail
        go_meet
        refine ⟨_, rfl, ?_⟩
        refine hid_of (ST.out _ (w0.heap.size + 1 + 1 + 1) (w0.heap.size + 1) (w0.heap.size + 1 + 1) (w0.heap.size) ?_ (by omega) (by omega) (by omega) (by omega) ?_ ?_ ?_ ?_)
        · go_grown
        all_goals first | exact (al4 _ _ _ _ _).1 | exact (al4 _ _ _ _ _).2.1 | exact (al4 _ _ _ _ _).2.2.1 | exact (al4 _ _ _ _ _).2.2.2
      · go_simp
        refine hK.out _ _ trivial (fun _ => ?_)
        clear hK K
        refine wpAnyH_ready (rs := [2]) (by kernel_rfl) (by simp) ?_
        refine AllReadyH.cons rfl (fun K hK => ?_) AllReadyH.nil
        go_simp
        refine hK.out _ _ trivial (fun _ => ?_)
        clear hK K
        refine wpAnyH_ready (rs := [7]) (by kernel_rfl) (by simp) ?_
        refine AllReadyH.cons rfl (fun K hK => ?_) AllReadyH.nil
        go_simp
        refine hK.out _ _ trivial (fun _ => ?_)
        clear hK K
        refine wpAnyH_ready (rs := [8]) (by kernel_rfl) (by simp) ?_
        refine AllReadyH.cons rfl (fun K hK => ?_) AllReadyH.nil
        go_simp
        refine hK.out _ _ trivial (fun _ => ?_)
        clear hK K
        refine wpAnyH_ready (rs := [9]) (by kernel_rfl) (by simp) ?_
        refine AllReadyH.cons rfl (fun K hK => ?_) AllReadyH.nil
        go_simp
        refine hK.out _ _ trivial (fun _ => ?_)
        clear hK K
        refine wpAnyH_done (by kernel_rfl) ?_ _
        go_wp2_with fail
        go_meet
        refine ⟨_, rfl, ?_⟩
        refine hid_of (ST.out _ (w0.heap.size + 1 + 1 + 1) (w0.heap.size + 1 + 1) (w0.heap.size + 1) (w0.heap.size) ?_ (by omega) (by omega) (by omega) (by omega) ?_ ?_ ?_ ?_)
        · go_grown
        all_goals first | exact (al4 _ _ _ _ _).1 | exact (al4 _ _ _ _ _).2.1 | exact (al4 _ _ _ _ _).2.2.1 | exact (al4 _ _ _ _ _).2.2.2
  case rest =>
    obtain ⟨b, rfl, HC⟩ := hcut
    obtain ⟨wa, rfl⟩ : ∃ x, x = wc := ⟨_, rfl⟩
    clear k1 k2 k3 ST
    go_wp2_with fail
    refine wp_label ?_
    go_upto_block 0 with fail
    go_cut [] from 7 to 112 (fun X => Hid (∃ c M g T, c.li = ⟨q1, L.length, q3⟩ ∧ RwO w0 X b c L T M g ∧ (T.length < L.length → readB L = false)))
    case first =>
      go_wp2_with fail
      go_loopw [24] (fun p wr => ∃ i : Nat, p = .int .i64 (i : Int) ∧ i ≤ L.length ∧ Hid (∃ c M g T cs, T.length = i ∧ c.li = ⟨q1, L.length, q3⟩ ∧ RwO w0 wr b c L T M g ∧ BA wr wa.heap.size 31 cs ∧ cs.size = 7 ∧ (Value.slice c.ty.a c.ty.n c.ty.c).ownBlock ≠ some wa.heap.size)) (fun p wr => L.length - (ivOf p).toNat)
      case atStart =>
        obtain ⟨c, M, g, e1, e2⟩ := HC.out
        refine ⟨0, rfl, by omega, c, M, g, [], ZT, rfl, e1, e2.call ((Below.refl _ _).alloc (Nat.le_refl _) _), BA.new _ _ _, rfl, fun e => ?_⟩
        have := (e2.ty.lt _ e).2
        omega
      case round =>
        have HWA : Hid (w0.heap.size ≤ wa.heap.size) := by
          obtain ⟨c, M, g, e1, e2⟩ := HC.out
          exact hid_of e2.be.size
        clear HC
        obtain ⟨i, rfl, hle, HR0⟩ := hrel
        obtain ⟨c, M, g, T, cs, rfl, hli, HO, hmb, hcs, hne⟩ := HR0.out
        clear HR0
        by_cases hlt : T.length < L.length
        · have d1 : decide ((T.length : Int) < (L.length : Int)) = true := decide_eq_true (by omega)
          have d1n : decide (T.length < L.length) = true := decide_eq_true hlt
          have j0 : (0 : Int) ≤ (T.length : Int) := by omega
          have j1 : (T.length : Int) < (L.length : Int) := by omega
          have hlL : RdV w0 7 ⟨q1, L.length, q3⟩ L.length (flat ttE L) := HL.out
          obtain ⟨gl, ol, Z, cc, ha, l0, s0, bt, hz⟩ := box_tt hlL HO.be T.length hlt
          dsimp only at ha
          subst ha
          unfold ZT at s0
          have HTM : Hid (L[T.length] ∈ L) := hid_of (List.getElem_mem hlt)
          obtain ⟨t, ht⟩ : ∃ t, t = L[T.length] := ⟨_, rfl⟩
          rw [← ht] at bt HTM
          have HLT := hid_of hlt
          have HT : Hid (t = L[T.length]'(HLT.out)) := hid_of ht
          have hmz := hmb.below hz.out
          have htm : wr.heap.size ≠ wa.heap.size := by have := hmb.lt; omega
          have HX := hid_of (And.intro hli (And.intro (HO.call hz.out) (And.intro hmz (And.intro hcs (And.intro hne (And.intro bt htm))))))
          have b0 : Z.cell? ⟨wr.heap.size, 0, none⟩ = some (.int .i64 t.fm) := bt.cell 0
          have b1 : Z.cell? ⟨wr.heap.size, 1, none⟩ = some (.int .i64 t.ln) := bt.cell 1
          have b2 : Z.cell? ⟨wr.heap.size, 2, none⟩ = some (.int .i64 t.el) := bt.cell 2
          have b3 : Z.cell? ⟨wr.heap.size, 3, none⟩ = some (.int .i64 t.bs) := bt.cell 3
          have b4 : Z.cell? ⟨wr.heap.size, 4, none⟩ = some (.slice t.sl.a t.sl.n t.sl.c) := bt.cell 4
          have hbl := bt.lt
          clear hli HO hmb hcs hne bt htm hmz ht hlL hlt hle
          go_upto_block 2 with fail
          go_cut [7] (fun s7 X => ∃ (m : Tt) (e : Int), s7 = .int .i64 e ∧ Hid (∃ c M g, c.li = ⟨some ⟨gl, ol, none⟩, L.length, q3⟩ ∧ RdM w0 X b c L T M g wa.heap.size wr.heap.size t m e))
          case first =>
            by_cases h8 : T.length < 8
            · have d8 : decide ((T.length : Int) < 8) = true := decide_eq_true (by omega)
              have d8n : decide (T.length < 8) = true := decide_eq_true h8
              have BC : Hid (Calls Tryd.prog 25 #[.int .i64 (T.length : Int)] Z fun e w' => e = .returned (.agg (ttE (basT T.length))) ∧ Below Z.heap.size Z w') := hid_of (basic_any T.length h8 Z (HV.out.below HX.out.2.1.be HV.out.big))
              have MK : Hid (madeC L T (alL T) T.length t = some (basT T.length, 0)) := hid_of (by unfold madeC; rw [if_pos h8])
              have PL : Hid ((basT T.length).sl = ⟨none, 0, 0⟩ ∧ (basT T.length).fs = [] ∧ (basT T.length).fm ≠ 10) := hid_of ⟨rfl, rfl, by simp [basT]; omega⟩
              clear h8
              go_wp2_with (go_at_call 25; refine BC.out.mono ?_; rintro e w1 ⟨rfl, hB1⟩; have B1 := hid_of hB1; obtain ⟨Z2, zr2, HZ2⟩ := fill_tq (ttE (basT T.length)) (HX.out.2.2.1.below hB1) HX.out.2.2.2.1 (by kernel_rfl) (tt_one _); clear hB1)
              go_meet
              case rel => exact ⟨basT T.length, 0, rfl, c, M, g, HX.out.1, RdM.plain HX.out.2.1 HX.out.2.2.1 HX.out.2.2.2.2.2.1 HWA.out HX.out.2.2.2.2.1 HX.out.2.2.2.2.2.2 B1.out HZ2.out PL.out MK.out⟩
            have d8 : decide ((T.length : Int) < 8) = false := decide_eq_false (by omega)
            have d8n : decide (T.length < 8) = false := decide_eq_false h8
            have H8 := hid_of h8
            clear h8
            by_cases f8 : t.fm = 8
            · have e8 : (t.fm == 8) = true := by simpa using f8
              have AC : Hid (Calls Tryd.prog 24 #[.pointer (some ⟨b, 0, none⟩), .int .i64 t.ln, .int .i64 t.el] Z (PostT Z (arrP T (alL T) t.ln t.el))) := hid_of (array_any Z b c L T (alL T) HX.out.2.1.rw HX.out.2.1.fnd.inv.sz t.ln t.el)
              have MK : Hid (madeC L T (alL T) T.length t = some (arrP T (alL T) t.ln t.el)) := hid_of (by unfold madeC; rw [if_neg H8.out, if_pos f8])
              have PL := hid_of (plain_arr T (alL T) t.ln t.el)
              generalize arrP T (alL T) t.ln t.el = r at *
              clear f8
              go_wp2_with (go_at_call 24; refine AC.out.mono ?_; rintro e w1 ⟨rfl, hB1⟩; have B1 := hid_of hB1; obtain ⟨Z2, zr2, HZ2⟩ := fill_tq (ttE r.1) (HX.out.2.2.1.below hB1) HX.out.2.2.2.1 (by kernel_rfl) (tt_one _); clear hB1)
              go_meet
              case rel => exact ⟨r.1, r.2, rfl, c, M, g, HX.out.1, RdM.plain HX.out.2.1 HX.out.2.2.1 HX.out.2.2.2.2.2.1 HWA.out HX.out.2.2.2.2.1 HX.out.2.2.2.2.2.2 B1.out HZ2.out PL.out MK.out⟩
            have e8 : (t.fm == 8) = false := by simpa using f8
            by_cases f9 : t.fm = 9
            · have e9 : (t.fm == 9) = true := by simpa using f9
              have AC : Hid (Calls Tryd.prog 31 #[.pointer (some ⟨b, 0, none⟩), .int .i64 t.el] Z (PostT Z (openP T (alL T) t.el))) := hid_of (open_any Z b c L T (alL T) HX.out.2.1.rw t.el)
              have MK : Hid (madeC L T (alL T) T.length t = some (openP T (alL T) t.el)) := hid_of (by unfold madeC; rw [if_neg H8.out, if_neg f8, if_pos f9])
              have PL := hid_of (plain_open T (alL T) t.el)
              generalize openP T (alL T) t.el = r at *
              clear f8 f9
              go_wp2_with (go_at_call 31; refine AC.out.mono ?_; rintro e w1 ⟨rfl, hB1⟩; have B1 := hid_of hB1; obtain ⟨Z2, zr2, HZ2⟩ := fill_tq (ttE r.1) (HX.out.2.2.1.below hB1) HX.out.2.2.2.1 (by kernel_rfl) (tt_one _); clear hB1)
              go_meet
              case rel => exact ⟨r.1, r.2, rfl, c, M, g, HX.out.1, RdM.plain HX.out.2.1 HX.out.2.2.1 HX.out.2.2.2.2.2.1 HWA.out HX.out.2.2.2.2.1 HX.out.2.2.2.2.2.2 B1.out HZ2.out PL.out MK.out⟩
            have e9 : (t.fm == 9) = false := by simpa using f9
            by_cases f10 : t.fm = 10
            · have e10 : (t.fm == 10) = true := by simpa using f10
              have AC : Hid (Calls Tryd.prog 14 #[.pointer (some ⟨b, 0, none⟩), .int .i64 t.bs, .slice t.sl.a t.sl.n t.sl.c] Z (PostRec w0 Z T g t.bs t.fs)) := hid_of (record_any w0 Z b c L T M g HX.out.2.1 (by have := HLl.out; omega) t.bs t.sl t.fs (HLF.out t HTM.out) (HNM.out t HTM.out))
              have MK : Hid (madeC L T (alL T) T.length t = some (recP T (alL T) t.bs t.fs ⟨none, 0, 0⟩)) := hid_of (by unfold madeC; rw [if_neg H8.out, if_neg f8, if_neg f9, if_pos f10])
              clear f8 f9 f10
              go_wp2_with (go_at_call 14; refine AC.out.mono ?_; rintro e w1 ⟨sl, rfl, hnu, hfo⟩; have HNU := hid_of (And.intro hnu hfo); obtain ⟨Z2, zr2, HZ2⟩ := fill_tq (ttE (recP T (alL T) t.bs t.fs sl).1) (HX.out.2.2.1.tq hnu.1 (fun e => own_boxH HX.out.2.1.na HX.out.2.2.1 (by decide) HX.out.2.1.ng e.symm)) HX.out.2.2.2.1 (by kernel_rfl) (tt_one _); clear hnu hfo)
              go_meet
              case rel =>
                obtain ⟨M', hM'⟩ := RdM.recd HX.out.2.1 HX.out.2.2.1 HX.out.2.2.2.2.2.1 HWA.out HX.out.2.2.2.2.1 HX.out.2.2.2.2.2.2 HNU.out.1 HNU.out.2 HZ2.out MK.out
                exact ⟨_, _, rfl, c, M', g, HX.out.1, hM'⟩
            have e10 : (t.fm == 10) = false := by simpa using f10
            by_cases f11 : t.fm = 11
            · have e11 : (t.fm == 11) = true := by simpa using f11
              have AC : Hid (Calls Tryd.prog 32 #[.pointer (some ⟨b, 0, none⟩), .int .i64 t.el] Z (PostT Z (ptrP L t.el))) := hid_of (pointer_any Z b c L T (alL T) HX.out.2.1.rw t.el)
              have MK : Hid (madeC L T (alL T) T.length t = some (ptrP L t.el)) := hid_of (by unfold madeC; rw [if_neg H8.out, if_neg f8, if_neg f9, if_neg f10, if_pos f11])
              have PL := hid_of (plain_ptr L t.el)
              generalize ptrP L t.el = r at *
              clear f8 f9 f10 f11
              go_wp2_with (go_at_call 32; refine AC.out.mono ?_; rintro e w1 ⟨rfl, hB1⟩; have B1 := hid_of hB1; obtain ⟨Z2, zr2, HZ2⟩ := fill_tq (ttE r.1) (HX.out.2.2.1.below hB1) HX.out.2.2.2.1 (by kernel_rfl) (tt_one _); clear hB1)
              go_meet
              case rel => exact ⟨r.1, r.2, rfl, c, M, g, HX.out.1, RdM.plain HX.out.2.1 HX.out.2.2.1 HX.out.2.2.2.2.2.1 HWA.out HX.out.2.2.2.2.1 HX.out.2.2.2.2.2.2 B1.out HZ2.out PL.out MK.out⟩
            have e11 : (t.fm == 11) = false := by simpa using f11
            have MK : Hid (okC L T (alL T) T.length t = false) := hid_of (by unfold okC madeC; rw [if_neg H8.out, if_neg f8, if_neg f9, if_neg f10, if_neg f11])
            clear f8 f9 f10 f11
            go_wp2_with fail
            go_meet
            case rel => exact hid_of ⟨c, M, g, T, HX.out.1, HX.out.2.1, fun _ => HX.out.2.1.fnd.stop HLT.out (by rw [← HT.out]; exact MK.out)⟩
          case rest =>
            obtain ⟨m, e, rfl, HM⟩ := hcut
            obtain ⟨c2, M2, g2, hli2, HQ⟩ := HM.out
            obtain ⟨m0, hmd, hmc⟩ := HQ.md
            have lm := ldT_run HQ.bm Tryd.underlying31 rfl (by kernel_rfl)
            have ltt := ldT_run HQ.bt Tryd.underlying31 rfl (by kernel_rfl)
            have HLI2 := hid_of hli2
            have HQ1 := hid_of HQ
            have hmf : m.fs.length ≤ 200 := by
              have := made_fs hmd
              have e1 : (ct m).fs = (ct m0).fs := by rw [hmc]
              have e2 : m.fs = m0.fs := e1
              rw [e2]
              exact this
            have u1 := HQ.bm.lt
            have u2 := HQ.bt.lt
            have SA : Hid (Calls Tryd.prog 33 #[.agg (ttE m), .agg (ttE t)] wc fun e w' => e = .returned (.bool (sameB m t)) ∧ Below wc.heap.size wc w') := hid_of (same_any wc m t (own_rdv HQ.fo (by omega)) ((HLF.out t HTM.out).below HQ.ro.be))
            clear b0 b1 b2 b3 b4 l0 s0 hbl HX HM
            have hke : okC L T (alL T) T.length t = (decide (e = 0) && sameB m t) := by unfold okC; rw [hmd]; dsimp only; rw [sameB_ct hmc]
            have STOP : (decide (e = 0) && sameB m t) = false → readB L = false := fun h => HQ.ro.fnd.stop HLT.out (by rw [← HT.out, hke, h])
            have HMD := hid_of (And.intro hmd hmc)
            by_cases he : e = 0
            · subst he
              cases hsm : sameB m t
              · rw [hsm] at SA
                have ST1 := hid_of (STOP (by rw [hsm]; rfl))
                clear hmd hmc HQ hli2 hke STOP hsm hmf
                go_wp2_with (go_at_call 33; refine SA.out.mono ?_; rintro e w5 ⟨rfl, hB5⟩; have B5 := hid_of hB5; clear hB5)
                go_meet
                case rel => exact hid_of ⟨c2, M2, g2, T, HLI2.out, HQ1.out.ro.call B5.out, fun _ => ST1.out⟩
              · rw [hsm] at SA
                have HSM := hid_of hsm
                clear hmd hmc HQ hli2 hke STOP hsm hmf
                go_upto_region 19 with (go_at_call 33; refine SA.out.mono ?_; rintro e w5 ⟨rfl, hB5⟩; have Q5 := hid_of (HQ1.out.call hB5); clear hB5)
                clear lm ltt u1 u2
                go_cut [] (fun X => Hid (∃ c, c.li = ⟨some ⟨gl, ol, none⟩, L.length, q3⟩ ∧ RdQ w0 X b c L T M2 g2 wa.heap.size m))
                case first =>
                  have HQ5 := Q5.out
                  obtain ⟨iY, y1, y2, y3, y4⟩ := infoY
                  have hTl := HLT.out
                  have hLL := HLl.out
                  obtain ⟨s', Y, hrun0, cY, fY, cX, cA0, HN⟩ := app_boxG (X := w5.drew) (ob := b) (j := 1) HQ5.ro.bx (by decide) rfl Tryd.underlying22 y1 y2 y3 y4 rfl (by omega) (ttE m) rfl (by intro u hu; simp [ttE] at hu; rcases hu with rfl | rfl | rfl | rfl | rfl | rfl | rfl <;> rfl) HQ5.ro.ty HQ5.ro.be.size (by unfold maxLen; omega) (by omega)
                  have hrun : (appN #[22, 22] 22 #[.slice c2.ty.a c2.ty.n c2.ty.c, .slice (some ⟨w5.heap.size, 0, none⟩) 1 1]).run Tryd.prog (w5.alloc (.cells (ttE m) 31)).drew = .ok (.slice s'.a s'.n s'.c) Y := hrun0
                  have cX5 : w5.cell? ⟨b, 1, none⟩ = some (.slice c2.ty.a c2.ty.n c2.ty.c) := HQ5.ro.bx.cell 1
                  have cA : (w5.alloc (.cells (ttE m) 31)).cell? ⟨b, 1, none⟩ = some (.slice c2.ty.a c2.ty.n c2.ty.c) := cA0
                  have hBd : BA w5.drew wa.heap.size 31 (ttE m) := HQ5.bm
                  have lm5 := ldT_run hBd Tryd.underlying31 rfl (by kernel_rfl)
                  have u1 := HQ5.bm.lt
                  have u2 := HQ5.ro.bx.lt
                  simp only [ttE] at lm5 hrun cA
                  clear hrun0 cA0 cX hBd
                  clear y1 y2 y3 y4 HQ5 hTl hLL
                  refine wp_region_held_drew (S := fun _ => True) (by kernel_rfl) trivial (fun hHeld => ?_)
                  refine wpAnyH_take (i := 0) (v := ?_) rfl (by kernel_rfl) (by kernel_rfl) (by kernel_rfl) (fun _ _ _ h => h) (Or.inl ⟨by kernel_rfl, ?y0c⟩) hHeld ?r0c
                  case y0c => (intro wq hSw; go_simp; try rfl)
                  simp only [Act.put, List.setIfInBounds_toArray, List.set_cons_zero, List.set_cons_succ]
                  refine wpAnyH_take (i := 1) (v := ?_) rfl (by kernel_rfl) (by kernel_rfl) (by kernel_rfl) (fun _ _ _ h => h) (Or.inl ⟨by kernel_rfl, ?y1c⟩) hHeld ?r1c
                  case y1c => (intro wq hSw; go_simp; try rfl)
                  simp only [Act.put, List.setIfInBounds_toArray, List.set_cons_zero, List.set_cons_succ]
                  refine wpAnyH_take (i := 2) (v := ?_) rfl (by kernel_rfl) (by kernel_rfl) (by kernel_rfl) (fun _ _ _ h => h) (Or.inl ⟨by kernel_rfl, ?y2c⟩) hHeld ?r2c
                  case y2c => (intro wq hSw; go_simp; try rfl)
                  simp only [Act.put, List.setIfInBounds_toArray, List.set_cons_zero, List.set_cons_succ]
                  refine wpAnyH_take (i := 3) (v := ?_) rfl (by kernel_rfl) (by kernel_rfl) (by kernel_rfl) (fun _ _ _ h => h) (Or.inl ⟨by kernel_rfl, ?y3c⟩) hHeld ?r3c
                  case y3c => (intro wq hSw; go_simp; try rfl)
                  simp only [Act.put, List.setIfInBounds_toArray, List.set_cons_zero, List.set_cons_succ]
                  refine wpAnyH_ready (rs := [4, 5]) (by kernel_rfl) (by simp) ?_
                  refine AllReadyH.cons rfl (fun K hK => ?_) (AllReadyH.cons rfl (fun K hK => ?_) AllReadyH.nil)
                  · go_simp
                    refine hK.out _ _ trivial (fun _ => ?_)
                    clear hK K
                    refine wpAnyH_ready (rs := [5]) (by kernel_rfl) (by simp) ?_
                    refine AllReadyH.cons rfl (fun K hK => ?_) AllReadyH.nil
                    go_simp
                    refine hK.out _ _ trivial (fun _ => ?_)
                    clear hK K
                    refine wpAnyH_ready (rs := [6]) (by kernel_rfl) (by simp) ?_
                    refine AllReadyH.cons rfl (fun K hK => ?_) AllReadyH.nil
                    go_simp
                    refine hK.out _ _ trivial (fun _ => ?_)
                    clear hK K
                    refine wpAnyH_ready (rs := [7]) (by kernel_rfl) (by simp) ?_
                    refine AllReadyH.cons rfl (fun K hK => ?_) AllReadyH.nil
                    go_simp
                    refine hK.out _ _ trivial (fun _ => ?_)
                    clear hK K
                    refine wpAnyH_ready (rs := [8]) (by kernel_rfl) (by simp) ?_
                    refine AllReadyH.cons rfl (fun K hK => ?_) AllReadyH.nil
                    go_simp
                    refine hK.out _ _ trivial (fun _ => ?_)
                    clear hK K
                    refine wpAnyH_ready (rs := [9]) (by kernel_rfl) (by simp) ?_
                    refine AllReadyH.cons rfl (fun K hK => ?_) AllReadyH.nil
                    go_simp
                    refine hK.out _ _ trivial (fun _ => ?_)
                    clear hK K
                    refine wpAnyH_ready (rs := [10]) (by kernel_rfl) (by simp) ?_
                    refine AllReadyH.cons rfl (fun K hK => ?_) AllReadyH.nil
                    go_simp
                    refine hK.out _ _ trivial (fun _ => ?_)
                    clear hK K
                    refine wpAnyH_done (by kernel_rfl) ?_ _
                    go_wp2_with fail
                    go_meet
                    exact hid_of ⟨⟨c2.li, s', c2.al, c2.na⟩, HLI2.out, (RdQ.of (Q5.out.call (Below.refl _ _).drew) rfl HN.out.1 HN.out.2.1 HN.out.2.2.1 HN.out.2.2.2)⟩
                  · go_simp
                    refine hK.out _ _ trivial (fun _ => ?_)
                    clear hK K
                    refine wpAnyH_ready (rs := [4, 6]) (by kernel_rfl) (by simp) ?_
                    refine AllReadyH.cons rfl (fun K hK => ?_) (AllReadyH.cons rfl (fun K hK => ?_) AllReadyH.nil)
                    · go_simp
                      refine hK.out _ _ trivial (fun _ => ?_)
                      clear hK K
                      refine wpAnyH_ready (rs := [6]) (by kernel_rfl) (by simp) ?_
                      refine AllReadyH.cons rfl (fun K hK => ?_) AllReadyH.nil
                      go_simp
                      refine hK.out _ _ trivial (fun _ => ?_)
                      clear hK K
                      refine wpAnyH_ready (rs := [7]) (by kernel_rfl) (by simp) ?_
                      refine AllReadyH.cons rfl (fun K hK => ?_) AllReadyH.nil
                      go_simp
                      refine hK.out _ _ trivial (fun _ => ?_)
                      clear hK K
                      refine wpAnyH_ready (rs := [8]) (by kernel_rfl) (by simp) ?_
                      refine AllReadyH.cons rfl (fun K hK => ?_) AllReadyH.nil
                      go_simp
                      refine hK.out _ _ trivial (fun _ => ?_)
                      clear hK K
                      refine wpAnyH_ready (rs := [9]) (by kernel_rfl) (by simp) ?_
                      refine AllReadyH.cons rfl (fun K hK => ?_) AllReadyH.nil
                      go_simp
                      refine hK.out _ _ trivial (fun _ => ?_)
                      clear hK K
                      refine wpAnyH_ready (rs := [10]) (by kernel_rfl) (by simp) ?_
                      refine AllReadyH.cons rfl (fun K hK => ?_) AllReadyH.nil
                      go_simp
                      refine hK.out _ _ trivial (fun _ => ?_)
                      clear hK K
                      refine wpAnyH_done (by kernel_rfl) ?_ _
                      go_wp2_with fail
                      go_meet
                      exact hid_of ⟨⟨c2.li, s', c2.al, c2.na⟩, HLI2.out, (RdQ.of (Q5.out.call (Below.refl _ _).drew) rfl HN.out.1 HN.out.2.1 HN.out.2.2.1 HN.out.2.2.2)⟩
                    · go_simp
                      refine hK.out _ _ trivial (fun _ => ?_)
                      clear hK K
                      refine wpAnyH_ready (rs := [4]) (by kernel_rfl) (by simp) ?_
                      refine AllReadyH.cons rfl (fun K hK => ?_) AllReadyH.nil
                      go_simp
                      refine hK.out _ _ trivial (fun _ => ?_)
                      clear hK K
                      refine wpAnyH_ready (rs := [7]) (by kernel_rfl) (by simp) ?_
                      refine AllReadyH.cons rfl (fun K hK => ?_) AllReadyH.nil
                      go_simp
                      refine hK.out _ _ trivial (fun _ => ?_)
                      clear hK K
                      refine wpAnyH_ready (rs := [8]) (by kernel_rfl) (by simp) ?_
                      refine AllReadyH.cons rfl (fun K hK => ?_) AllReadyH.nil
                      go_simp
                      refine hK.out _ _ trivial (fun _ => ?_)
                      clear hK K
                      refine wpAnyH_ready (rs := [9]) (by kernel_rfl) (by simp) ?_
                      refine AllReadyH.cons rfl (fun K hK => ?_) AllReadyH.nil
                      go_simp
                      refine hK.out _ _ trivial (fun _ => ?_)
                      clear hK K
                      refine wpAnyH_ready (rs := [10]) (by kernel_rfl) (by simp) ?_
                      refine AllReadyH.cons rfl (fun K hK => ?_) AllReadyH.nil
                      go_simp
                      refine hK.out _ _ trivial (fun _ => ?_)
                      clear hK K
                      refine wpAnyH_done (by kernel_rfl) ?_ _
                      go_wp2_with fail
                      go_meet
                      exact hid_of ⟨⟨c2.li, s', c2.al, c2.na⟩, HLI2.out, (RdQ.of (Q5.out.call (Below.refl _ _).drew) rfl HN.out.1 HN.out.2.1 HN.out.2.2.1 HN.out.2.2.2)⟩
                case rest =>
                  obtain ⟨c3, hli3, HQ3⟩ := hcut.out
                  have HL3 := hid_of hli3
                  have H3 := hid_of HQ3
                  obtain ⟨wb, rfl⟩ : ∃ x, x = wc := ⟨_, rfl⟩
                  have FN : Hid (Fnd L (T ++ [m])) := hid_of (fnd_more HQ1.out.ro.fnd HLT.out (by rw [← HT.out]; exact HMD.out.1) HMD.out.2 (by rw [← HT.out]; exact HSM.out))
                  have AL : Hid (∀ X, Below wb.heap.size wb X → Calls Tryd.prog 34 #[.pointer (some ⟨b, 0, none⟩), .agg (ttE m)] X fun e w' => e = .returned (.int .i64 (alP (alL T) m)) ∧ Below X.heap.size X w') := hid_of (by
                    intro X hX
                    have h7 := HQ3.call hX
                    have hal : RdV X 1 c3.al (alL T).length (flat iE (alL T)) := by
                      have := own_rdv h7.al (by have := HLT.out; have := HLl.out; omega)
                      rwa [alL_len]
                    refine alignOf_al X b c3 (alL T) h7.bx hal m (fun h8 => ?_)
                    have e1 : (ct m).el = (ct m0).el ∧ (ct m).fm = (ct m0).fm := by rw [HMD.out.2]; exact ⟨rfl, rfl⟩
                    have e2 : m.el = m0.el := e1.1
                    have e3 : m.fm = m0.fm := e1.2
                    rw [e2]
                    exact made_el HMD.out.1 (by rw [← e3]; exact h8))
                  clear hli3 HQ3 hcut HQ1 SA
                  go_upto_region 20 with fail
                  have c2b : wb.cell? ⟨b, 2, none⟩ = some (.slice c3.al.a c3.al.n c3.al.c) := H3.out.bx.cell 2
                  have hBd : BA wb.drew wa.heap.size 31 (ttE m) := H3.out.bm
                  have lmb := ldT_run hBd Tryd.underlying31 rfl (by kernel_rfl)
                  clear hBd
                  have u1 := H3.out.bm.lt
                  have u2 := H3.out.bx.lt
                  obtain ⟨iI, i1, i2, i3, i4⟩ := infoI
                  have II := hid_of (And.intro i1 (And.intro i2 (And.intro i3 i4)))
                  have hwi : wrap64 ((T.length : Int) + 1) = (T.length : Int) + 1 := by rw [IntWalk.wrap64_in] <;> (have := HLT.out; have := HLl.out; omega)
                  have HME : Hid (L.length - ((T.length : Int) + 1).toNat < L.length - ((T.length : Int)).toNat) := hid_of (by clear hwi; have := HLT.out; omega)
                  clear i1 i2 i3 i4
                  simp only [ttE] at lmb AL
                  refine wp_region_held_drew (S := fun _ => True) (by kernel_rfl) trivial (fun hHeld => ?_)
                  refine wpAnyH_take (i := 0) (v := ?_) rfl (by kernel_rfl) (by kernel_rfl) (by kernel_rfl) (fun _ _ _ h => h) (Or.inl ⟨by kernel_rfl, ?y0d⟩) hHeld ?r0d
                  case y0d => (intro wq hSw; go_simp; try rfl)
                  simp only [Act.put, List.setIfInBounds_toArray, List.set_cons_zero, List.set_cons_succ]
                  refine wpAnyH_take (i := 1) (v := ?_) rfl (by kernel_rfl) (by kernel_rfl) (by kernel_rfl) (fun _ _ _ h => h) (Or.inl ⟨by kernel_rfl, ?y1d⟩) hHeld ?r1d
                  case y1d => (intro wq hSw; go_simp; try rfl)
                  simp only [Act.put, List.setIfInBounds_toArray, List.set_cons_zero, List.set_cons_succ]
                  refine wpAnyH_take (i := 2) (v := ?_) rfl (by kernel_rfl) (by kernel_rfl) (by kernel_rfl) (fun _ _ _ h => h) (Or.inl ⟨by kernel_rfl, ?y2d⟩) hHeld ?r2d
                  case y2d => (intro wq hSw; go_simp; try rfl)
                  simp only [Act.put, List.setIfInBounds_toArray, List.set_cons_zero, List.set_cons_succ]
                  refine wpAnyH_take (i := 3) (v := ?_) rfl (by kernel_rfl) (by kernel_rfl) (by kernel_rfl) (fun _ _ _ h => h) (Or.inl ⟨by kernel_rfl, ?y3d⟩) hHeld ?r3d
                  case y3d => (intro wq hSw; go_simp; try rfl)
                  simp only [Act.put, List.setIfInBounds_toArray, List.set_cons_zero, List.set_cons_succ]
                  refine wpAnyH_take (i := 5) (v := ?_) rfl (by kernel_rfl) (by kernel_rfl) (by kernel_rfl) (fun _ _ _ h => h) (Or.inl ⟨by kernel_rfl, ?y5d⟩) hHeld ?r5d
                  case y5d => (intro wq hSw; go_simp; try rfl)
                  simp only [Act.put, List.setIfInBounds_toArray, List.set_cons_zero, List.set_cons_succ]
                  refine wpAnyH_ready (rs := [4, 6]) (by kernel_rfl) (by simp) ?_
                  refine AllReadyH.cons rfl (fun K hK => ?_) (AllReadyH.cons rfl (fun K hK => ?_) AllReadyH.nil)
                  · go_simp
                    refine hK.out _ _ trivial (fun _ => ?_)
                    clear hK K
                    refine wpAnyH_ready (rs := [6]) (by kernel_rfl) (by simp) ?_
                    refine AllReadyH.cons rfl (fun K hK => ?_) AllReadyH.nil
                    go_simp
                    refine hK.out _ _ trivial (fun _ => ?_)
                    clear hK K
                    refine wpAnyH_ready (rs := [7]) (by kernel_rfl) (by simp) ?_
                    refine AllReadyH.cons rfl (fun K hK => ?_) AllReadyH.nil
                    go_simp
                    go_wp2_with (go_at_call 34; refine (AL.out _ (by first | exact Below.refl _ _ | exact (Below.refl _ _).drew)).mono ?_; rintro e w7 ⟨rfl, hB7⟩)
                    have Q7 := hid_of (H3.out.call (by first | exact hB7 | exact (Below.refl _ _).drew.trans hB7))
                    clear hB7
                    obtain ⟨s7, Y, hrun, cY, fY, cX, cA, HN⟩ := app_boxG (ob := b) (j := 2) Q7.out.bx (by decide) rfl Tryd.underlying24 II.out.1 II.out.2.1 II.out.2.2.1 II.out.2.2.2 rfl (by omega) (iE (alP (alL T) m)) rfl (by intro u hu; simp [iE] at hu; subst hu; rfl) Q7.out.al Q7.out.be.size (by have := HLT.out; have := HLl.out; unfold maxLen; omega) (by have := HLT.out; have := HLl.out; omega)
                    have u3 := Q7.out.bx.lt
                    simp only [iE] at hrun cA
                    refine hK.out _ _ trivial (fun _ => ?_)
                    clear hK K
                    refine wpAnyH_ready (rs := [8]) (by kernel_rfl) (by simp) ?_
                    refine AllReadyH.cons rfl (fun K hK => ?_) AllReadyH.nil
                    go_simp
                    refine hK.out _ _ trivial (fun _ => ?_)
                    clear hK K
                    refine wpAnyH_ready (rs := [9]) (by kernel_rfl) (by simp) ?_
                    refine AllReadyH.cons rfl (fun K hK => ?_) AllReadyH.nil
                    go_simp
                    refine hK.out _ _ trivial (fun _ => ?_)
                    clear hK K
                    refine wpAnyH_ready (rs := [10]) (by kernel_rfl) (by simp) ?_
                    refine AllReadyH.cons rfl (fun K hK => ?_) AllReadyH.nil
                    go_simp
                    refine hK.out _ _ trivial (fun _ => ?_)
                    clear hK K
                    refine wpAnyH_ready (rs := [11]) (by kernel_rfl) (by simp) ?_
                    refine AllReadyH.cons rfl (fun K hK => ?_) AllReadyH.nil
                    go_simp
                    refine hK.out _ _ trivial (fun _ => ?_)
                    clear hK K
                    refine wpAnyH_ready (rs := [12]) (by kernel_rfl) (by simp) ?_
                    refine AllReadyH.cons rfl (fun K hK => ?_) AllReadyH.nil
                    go_simp
                    refine hK.out _ _ trivial (fun _ => ?_)
                    clear hK K
                    refine wpAnyH_done (by kernel_rfl) ?_ _
                    go_wp2_with fail
                    go_roundw
                    case rel =>
                      have hD := RdQ.done Q7.out FN.out HN.out.1 HN.out.2.1 HN.out.2.2.1
                      exact ⟨T.length + 1, by simp [hwi], Nat.succ_le_of_lt HLT.out, ⟨c3.li, c3.ty, s7, c3.na⟩, M2, g2, T ++ [m], ttE m, by simp, HL3.out, by first | exact hD.1 | exact hD.1.call (Below.refl _ _).drew, by first | exact hD.2 | exact hD.2.below (Below.refl _ _).drew, rfl, Q7.out.ne⟩
                    case measure => exact vmeas HME.out hwi
                  · go_simp
                    refine hK.out _ _ trivial (fun _ => ?_)
                    clear hK K
                    refine wpAnyH_ready (rs := [4, 7]) (by kernel_rfl) (by simp) ?_
                    refine AllReadyH.cons rfl (fun K hK => ?_) (AllReadyH.cons rfl (fun K hK => ?_) AllReadyH.nil)
                    · go_simp
                      refine hK.out _ _ trivial (fun _ => ?_)
                      clear hK K
                      refine wpAnyH_ready (rs := [7]) (by kernel_rfl) (by simp) ?_
                      refine AllReadyH.cons rfl (fun K hK => ?_) AllReadyH.nil
                      go_simp
                      go_wp2_with (go_at_call 34; refine (AL.out _ (by first | exact Below.refl _ _ | exact (Below.refl _ _).drew)).mono ?_; rintro e w7 ⟨rfl, hB7⟩)
                      have Q7 := hid_of (H3.out.call (by first | exact hB7 | exact (Below.refl _ _).drew.trans hB7))
                      clear hB7
                      obtain ⟨s7, Y, hrun, cY, fY, cX, cA, HN⟩ := app_boxG (ob := b) (j := 2) Q7.out.bx (by decide) rfl Tryd.underlying24 II.out.1 II.out.2.1 II.out.2.2.1 II.out.2.2.2 rfl (by omega) (iE (alP (alL T) m)) rfl (by intro u hu; simp [iE] at hu; subst hu; rfl) Q7.out.al Q7.out.be.size (by have := HLT.out; have := HLl.out; unfold maxLen; omega) (by have := HLT.out; have := HLl.out; omega)
                      have u3 := Q7.out.bx.lt
                      simp only [iE] at hrun cA
                      refine hK.out _ _ trivial (fun _ => ?_)
                      clear hK K
                      refine wpAnyH_ready (rs := [8]) (by kernel_rfl) (by simp) ?_
                      refine AllReadyH.cons rfl (fun K hK => ?_) AllReadyH.nil
                      go_simp
                      refine hK.out _ _ trivial (fun _ => ?_)
                      clear hK K
                      refine wpAnyH_ready (rs := [9]) (by kernel_rfl) (by simp) ?_
                      refine AllReadyH.cons rfl (fun K hK => ?_) AllReadyH.nil
                      go_simp
                      refine hK.out _ _ trivial (fun _ => ?_)
                      clear hK K
                      refine wpAnyH_ready (rs := [10]) (by kernel_rfl) (by simp) ?_
                      refine AllReadyH.cons rfl (fun K hK => ?_) AllReadyH.nil
                      go_simp
                      refine hK.out _ _ trivial (fun _ => ?_)
                      clear hK K
                      refine wpAnyH_ready (rs := [11]) (by kernel_rfl) (by simp) ?_
                      refine AllReadyH.cons rfl (fun K hK => ?_) AllReadyH.nil
                      go_simp
                      refine hK.out _ _ trivial (fun _ => ?_)
                      clear hK K
                      refine wpAnyH_ready (rs := [12]) (by kernel_rfl) (by simp) ?_
                      refine AllReadyH.cons rfl (fun K hK => ?_) AllReadyH.nil
                      go_simp
                      refine hK.out _ _ trivial (fun _ => ?_)
                      clear hK K
                      refine wpAnyH_done (by kernel_rfl) ?_ _
                      go_wp2_with fail
                      go_roundw
                      case rel =>
                        have hD := RdQ.done Q7.out FN.out HN.out.1 HN.out.2.1 HN.out.2.2.1
                        exact ⟨T.length + 1, by simp [hwi], Nat.succ_le_of_lt HLT.out, ⟨c3.li, c3.ty, s7, c3.na⟩, M2, g2, T ++ [m], ttE m, by simp, HL3.out, by first | exact hD.1 | exact hD.1.call (Below.refl _ _).drew, by first | exact hD.2 | exact hD.2.below (Below.refl _ _).drew, rfl, Q7.out.ne⟩
                      case measure => exact vmeas HME.out hwi
                    · go_simp
                      go_wp2_with (go_at_call 34; refine (AL.out _ (by first | exact Below.refl _ _ | exact (Below.refl _ _).drew)).mono ?_; rintro e w7 ⟨rfl, hB7⟩)
                      have Q7 := hid_of (H3.out.call (by first | exact hB7 | exact (Below.refl _ _).drew.trans hB7))
                      clear hB7
                      obtain ⟨s7, Y, hrun, cY, fY, cX, cA, HN⟩ := app_boxG (ob := b) (j := 2) Q7.out.bx (by decide) rfl Tryd.underlying24 II.out.1 II.out.2.1 II.out.2.2.1 II.out.2.2.2 rfl (by omega) (iE (alP (alL T) m)) rfl (by intro u hu; simp [iE] at hu; subst hu; rfl) Q7.out.al Q7.out.be.size (by have := HLT.out; have := HLl.out; unfold maxLen; omega) (by have := HLT.out; have := HLl.out; omega)
                      have u3 := Q7.out.bx.lt
                      simp only [iE] at hrun cA
                      refine hK.out _ _ trivial (fun _ => ?_)
                      clear hK K
                      refine wpAnyH_ready (rs := [4, 8]) (by kernel_rfl) (by simp) ?_
                      refine AllReadyH.cons rfl (fun K hK => ?_) (AllReadyH.cons rfl (fun K hK => ?_) AllReadyH.nil)
                      · go_simp
                        refine hK.out _ _ trivial (fun _ => ?_)
                        clear hK K
                        refine wpAnyH_ready (rs := [8]) (by kernel_rfl) (by simp) ?_
                        refine AllReadyH.cons rfl (fun K hK => ?_) AllReadyH.nil
                        go_simp
                        refine hK.out _ _ trivial (fun _ => ?_)
                        clear hK K
                        refine wpAnyH_ready (rs := [9]) (by kernel_rfl) (by simp) ?_
                        refine AllReadyH.cons rfl (fun K hK => ?_) AllReadyH.nil
                        go_simp
                        refine hK.out _ _ trivial (fun _ => ?_)
                        clear hK K
                        refine wpAnyH_ready (rs := [10]) (by kernel_rfl) (by simp) ?_
                        refine AllReadyH.cons rfl (fun K hK => ?_) AllReadyH.nil
                        go_simp
                        refine hK.out _ _ trivial (fun _ => ?_)
                        clear hK K
                        refine wpAnyH_ready (rs := [11]) (by kernel_rfl) (by simp) ?_
                        refine AllReadyH.cons rfl (fun K hK => ?_) AllReadyH.nil
                        go_simp
                        refine hK.out _ _ trivial (fun _ => ?_)
                        clear hK K
                        refine wpAnyH_ready (rs := [12]) (by kernel_rfl) (by simp) ?_
                        refine AllReadyH.cons rfl (fun K hK => ?_) AllReadyH.nil
                        go_simp
                        refine hK.out _ _ trivial (fun _ => ?_)
                        clear hK K
                        refine wpAnyH_done (by kernel_rfl) ?_ _
                        go_wp2_with fail
                        go_roundw
                        case rel =>
                          have hD := RdQ.done Q7.out FN.out HN.out.1 HN.out.2.1 HN.out.2.2.1
                          exact ⟨T.length + 1, by simp [hwi], Nat.succ_le_of_lt HLT.out, ⟨c3.li, c3.ty, s7, c3.na⟩, M2, g2, T ++ [m], ttE m, by simp, HL3.out, by first | exact hD.1 | exact hD.1.call (Below.refl _ _).drew, by first | exact hD.2 | exact hD.2.below (Below.refl _ _).drew, rfl, Q7.out.ne⟩
                        case measure => exact vmeas HME.out hwi
                      · go_simp
                        refine hK.out _ _ trivial (fun _ => ?_)
                        clear hK K
                        refine wpAnyH_ready (rs := [4]) (by kernel_rfl) (by simp) ?_
                        refine AllReadyH.cons rfl (fun K hK => ?_) AllReadyH.nil
                        go_simp
                        refine hK.out _ _ trivial (fun _ => ?_)
                        clear hK K
                        refine wpAnyH_ready (rs := [9]) (by kernel_rfl) (by simp) ?_
                        refine AllReadyH.cons rfl (fun K hK => ?_) AllReadyH.nil
                        go_simp
                        refine hK.out _ _ trivial (fun _ => ?_)
                        clear hK K
                        refine wpAnyH_ready (rs := [10]) (by kernel_rfl) (by simp) ?_
                        refine AllReadyH.cons rfl (fun K hK => ?_) AllReadyH.nil
                        go_simp
                        refine hK.out _ _ trivial (fun _ => ?_)
                        clear hK K
                        refine wpAnyH_ready (rs := [11]) (by kernel_rfl) (by simp) ?_
                        refine AllReadyH.cons rfl (fun K hK => ?_) AllReadyH.nil
                        go_simp
                        refine hK.out _ _ trivial (fun _ => ?_)
                        clear hK K
                        refine wpAnyH_ready (rs := [12]) (by kernel_rfl) (by simp) ?_
                        refine AllReadyH.cons rfl (fun K hK => ?_) AllReadyH.nil
                        go_simp
                        refine hK.out _ _ trivial (fun _ => ?_)
                        clear hK K
                        refine wpAnyH_done (by kernel_rfl) ?_ _
                        go_wp2_with fail
                        go_roundw
                        case rel =>
                          have hD := RdQ.done Q7.out FN.out HN.out.1 HN.out.2.1 HN.out.2.2.1
                          exact ⟨T.length + 1, by simp [hwi], Nat.succ_le_of_lt HLT.out, ⟨c3.li, c3.ty, s7, c3.na⟩, M2, g2, T ++ [m], ttE m, by simp, HL3.out, by first | exact hD.1 | exact hD.1.call (Below.refl _ _).drew, by first | exact hD.2 | exact hD.2.below (Below.refl _ _).drew, rfl, Q7.out.ne⟩
                        case measure => exact vmeas HME.out hwi
            · have e1 : (e != 0) = true := by simpa using he
              have ST1 := hid_of (STOP (by rw [decide_eq_false he]; rfl))
              clear hmd hmc HQ hli2 hke STOP hmf he
              go_wp2_with fail
              go_meet
              case rel => exact hid_of ⟨c2, M2, g2, T, HLI2.out, HQ1.out.ro, fun _ => ST1.out⟩
        · have d1 : decide ((T.length : Int) < (L.length : Int)) = false := decide_eq_false (by omega)
          have d1n : decide (T.length < L.length) = false := decide_eq_false hlt
          have HF : Hid (∃ c M g T, c.li = ⟨q1, L.length, q3⟩ ∧ RwO w0 wr b c L T M g ∧ (T.length < L.length → readB L = false)) := hid_of ⟨c, M, g, T, hli, HO, fun h => absurd h hlt⟩
          clear hli HO hmb hcs hne hle hlt
          go_wp2_with fail
          go_meet
          case rel => exact HF
    case rest =>
      obtain ⟨c, M, g, T, hli, HO, hfin⟩ := hcut.out
      have hlen : c.ty.n = T.length := HO.rw.ty.len
      have c1 : wc.cell? ⟨b, 1, none⟩ = some (.slice c.ty.a c.ty.n c.ty.c) := HO.bx.cell 1
      rw [hlen] at c1
      have hle := HO.fnd.le
      have HOO := hid_of (And.intro hli HO)
      have hall := fun h => HO.fnd.all h
      clear hli HO hcut hlen
      by_cases h8 : 8 ≤ L.length
      · have e1 : decide ((L.length : Int) ≥ 8) = true := decide_eq_true (by omega)
        have e2 : decide ((8 : Int) ≤ (L.length : Int)) = true := decide_eq_true (by omega)
        have e3 : decide (8 ≤ L.length) = true := decide_eq_true h8
        by_cases hT : T.length = L.length
        · have d1 : ((T.length : Int) == (L.length : Int)) = true := by simp; omega
          have d2 : (T.length == L.length) = true := by simpa using hT
          have d3 : decide (T.length = L.length) = true := decide_eq_true hT
          have HB : Hid (readB L = true) := hid_of (by rw [(hall hT).1, e3])
          have HT := hid_of hT
          clear hT hle hall hfin h8
          go_wp2_with fail
          go_quiet (fail)
          go_wp2_with fail
          simp only [Exit.noGoto, Exit.inBlock, Exit.then]
          go_ret2
          exact ⟨b, c, T, M, g, by rw [HB.out]; rfl, HOO.out.1, HOO.out.2.call (bdn (Below.refl _ _) _), fun _ => HT.out⟩
        · have d1 : ((T.length : Int) == (L.length : Int)) = false := by simp; omega
          have d2 : (T.length == L.length) = false := by simpa using hT
          have d3 : decide (T.length = L.length) = false := decide_eq_false hT
          have HB : Hid (readB L = false) := hid_of (hfin (by omega))
          clear hT hle hall hfin h8
          go_wp2_with fail
          go_quiet (fail)
          go_wp2_with fail
          simp only [Exit.noGoto, Exit.inBlock, Exit.then]
          go_ret2
          exact ⟨b, c, T, M, g, by rw [HB.out]; rfl, HOO.out.1, HOO.out.2.call (bdn (Below.refl _ _) _), fun h => by rw [HB.out] at h; cases h⟩
      · have e1 : decide ((L.length : Int) ≥ 8) = false := decide_eq_false (by omega)
        have e2 : decide ((8 : Int) ≤ (L.length : Int)) = false := decide_eq_false (by omega)
        have e3 : decide (8 ≤ L.length) = false := decide_eq_false h8
        have HB : Hid (readB L = false) := hid_of (by unfold readB; rw [e3, Bool.false_and])
        clear hle hall hfin h8
        go_wp2_with fail
        go_quiet (fail)
        go_wp2_with fail
        simp only [Exit.noGoto, Exit.inBlock, Exit.then]
        go_ret2
        exact ⟨b, c, T, M, g, by rw [HB.out]; rfl, HOO.out.1, HOO.out.2.call (bdn (Below.refl _ _) _), fun h => by rw [HB.out] at h; cases h⟩
end Go.Proofs.YtgkfnfilomjphaaDoor
