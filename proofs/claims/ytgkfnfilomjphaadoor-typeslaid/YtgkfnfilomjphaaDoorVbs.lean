/-
  Layer 11: the basic types, all of them.
-/
import Derived.Test.YtgkfnfilomjphaaDoorVre
namespace Go.Proofs.YtgkfnfilomjphaaDoor
set_option linter.unusedVariables false
set_option linter.unusedSimpArgs false
open Go.ChangeShapes Go.WideShapes Go.ChangeAt Go.RowKit
attribute [local go_sem ↓] ldY_seal stY_seal mkN_seal

def L8 : List Tt := [basT 0, basT 1, basT 2, basT 3, basT 4, basT 5, basT 6, basT 7]
theorem l8_at (i : Nat) (h : i < 8) : L8.take (i + 1) = L8.take i ++ [basT i] := by
  have hc : i = 0 ∨ i = 1 ∨ i = 2 ∨ i = 3 ∨ i = 4 ∨ i = 5 ∨ i = 6 ∨ i = 7 := by omega
  rcases hc with rfl | rfl | rfl | rfl | rfl | rfl | rfl | rfl <;> rfl
theorem putK_mid : ∀ (vs p q r : List Value), q.length = vs.length → putK (p ++ q ++ r).toArray p.length vs = (p ++ vs ++ r).toArray
  | [], p, q, r, h => by
    have : q = [] := List.length_eq_zero_iff.1 h
    rw [this]; rfl
  | v :: t, p, [], r, h => by cases h
  | v :: t, p, a :: q, r, h => by
    rw [putK]
    have h1 : ((p ++ a :: q ++ r).toArray.setIfInBounds p.length v) = ((p ++ [v]) ++ q ++ r).toArray := by
      rw [List.setIfInBounds_toArray]
      congr 1
      rw [List.append_assoc, List.set_append_right _ _ (Nat.le_refl _)]
      simp
    rw [h1]
    have := putK_mid t (p ++ [v]) q r (by simpa using h)
    rw [show (p ++ [v]).length = p.length + 1 by simp] at this
    rw [this]
    simp
theorem stT_in {w : World} {g : Nat} {ty ty' : TypeId} (p q r : List Value) (cs : Array Value) (h : BA w g ty' (p ++ q ++ r).toArray) (hq : q.length = cs.size) (hi : (Tryd.prog.info? ty).map (·.size) = some cs.size) (h1 : (cs.all fun x => x.oneCell') = true) : ∃ Y, (stT ty ⟨g, p.length, none⟩ (.agg cs)).run Tryd.prog w = .ok () Y ∧ BA Y g ty' (p ++ cs.toList ++ r).toArray ∧ Tq w Y (fun k => k = g) := by
  have hr := run_storeVar_mid (P := Tryd.prog) w g p.length ty cs (fun j hj => by
    rw [blk_cell h (p.length + j)]
    have hj2 : p.length + j < (p ++ q ++ r).toArray.size := by simp; omega
    exact ⟨by rw [Array.getElem?_eq_getElem hj2]; rfl, blk_fz h _⟩) hi h1
  have hp := cells_put cs.toList p.length w _ h
  rw [putK_mid cs.toList p q r (by simpa using hq)] at hp
  exact ⟨_, hr, hp, tq_cells _ _ _⟩
theorem infoY' : ∃ i : TypeInfo, Tryd.prog.info? 31 = some i ∧ i.zero = some (.agg ZT) ∧ i.size = 7 ∧ i.bytes = 72 := by
  have h : (match Tryd.prog.info? 31 with | some i => decide (i.bytes = 72) && decide (i.size = 7) | none => false) = true := by kernel_rfl
  have h2 : (Tryd.prog.info? 31).bind (·.zero) = some (.agg ZT) := by kernel_rfl
  cases hi : Tryd.prog.info? 31 with
  | none => rw [hi] at h; cases h
  | some i =>
    rw [hi] at h h2
    simp only [Bool.and_eq_true, decide_eq_true_eq] at h
    exact ⟨i, rfl, h2, h.2, h.1⟩
theorem sto8 {X : World} {g : Nat} (i : Nat) (h : i < 8) {r : List Value} (hr : r.length = 56 - i * 7) (hB : BA X g 31 (flat ttE (L8.take i) ++ r).toArray) : ∃ Y, (stT 31 ⟨g, i * 7, none⟩ (.agg (ttE (basT i)))).run Tryd.prog X = .ok () Y ∧ Hid (Tq X Y (fun k => k = g) ∧ ∃ r2 : List Value, r2.length = 56 - (i + 1) * 7 ∧ BA Y g 31 (flat ttE (L8.take (i + 1)) ++ r2).toArray) := by
  have e : r = r.take 7 ++ r.drop 7 := (List.take_append_drop 7 r).symm
  rw [e, ← List.append_assoc] at hB
  have hl : (flat ttE (L8.take i)).length = i * 7 := by rw [flat_len ttE 7 (fun _ => rfl), List.length_take]; have : L8.length = 8 := rfl; rw [this, Nat.min_eq_left (by omega)]
  obtain ⟨Y, y1, y2, y3⟩ := stT_in (ty := 31) _ _ _ (ttE (basT i)) hB (by rw [List.length_take, hr]; have : (ttE (basT i)).size = 7 := rfl; omega) (by kernel_rfl) (tt_one _)
  rw [hl] at y1
  refine ⟨Y, y1, y3, r.drop 7, by rw [List.length_drop, hr]; omega, ?_⟩
  rw [l8_at i h, flat_snoc]
  exact y2
set_option maxHeartbeats 8000000 in
set_option maxRecDepth 20000 in
theorem basics_all (w : World) (hv : Vs w) : Calls Tryd.prog 11 #[] w fun e w' => ∃ s : Sl, e = .returned (.slice s.a s.n s.c) ∧ w'.ownsRow w.heap.size 31 7 (.slice s.a s.n s.c) 8 (flat ttE L8) ∧ Below w.heap.size w w' := by
  obtain ⟨iY, y1, y2, y3, y4⟩ := infoY'
  obtain ⟨C1, hC1⟩ : ∃ C, C = madeCells ZT (8 * 7) := ⟨_, rfl⟩
  have k1 : (mkN 22 (.int .i64 8) (.int .i64 8)).run Tryd.prog w = .ok (.slice (some ⟨w.heap.size, 0, none⟩) 8 8) (w.alloc (.cells C1 31)) := by
    have h := run_make (P := Tryd.prog) w 22 31 iY _ Tryd.underlying22 y1 y2 .i64 .i64 8 8 (by decide) (by decide) (by rw [y4]; decide) (by decide)
    simp only [y3] at h
    rw [hC1]
    exact h
  have z1 : C1.size = 56 := by rw [hC1]; exact size_madeCells _ _
  have H0 : Hid (∃ r : List Value, r.length = 56 - 0 * 7 ∧ BA (w.alloc (.cells C1 31)) w.heap.size 31 (flat ttE (L8.take 0) ++ r).toArray ∧ Below w.heap.size w (w.alloc (.cells C1 31))) := hid_of ⟨C1.toList, by simpa using z1, by simpa [flat] using BA.new w 31 C1, (Below.refl _ _).alloc (Nat.le_refl _) _⟩
  have HV := hid_of hv
  clear y1 y2 y3 y4 hC1 z1 hv
  go_enter Tryd.func11, Tryd.ntmps11
  go_wp2
  go_loopw [6] (fun p wr => ∃ i : Nat, p = .int .i64 (i : Int) ∧ i ≤ 8 ∧ Hid (∃ r : List Value, r.length = 56 - i * 7 ∧ BA wr w.heap.size 31 (flat ttE (L8.take i) ++ r).toArray ∧ Below w.heap.size w wr)) (fun p wr => 8 - (ivOf p).toNat)
  case atStart => exact ⟨0, rfl, by omega, H0⟩
  case round =>
    obtain ⟨i, rfl, hi, HR⟩ := hrel
    by_cases hlt : i < 8
    · have d1 : decide ((i : Int) < 8) = true := decide_eq_true (by omega)
      have j0 : (0 : Int) ≤ (i : Int) := by omega
      have j1 : (i : Int) < 8 := by omega
      obtain ⟨r, hr, hB, hb⟩ := HR.out
      have BC : Hid (Calls Tryd.prog 25 #[.int .i64 (i : Int)] wr fun e w' => e = .returned (.agg (ttE (basT i))) ∧ Below wr.heap.size wr w') := hid_of (basic_any i hlt wr (HV.out.call hb))
      have HX := hid_of (And.intro hr (And.intro hB hb))
      have HLT := hid_of hlt
      have hwi : wrap64 ((i : Int) + 1) = (i : Int) + 1 := by rw [IntWalk.wrap64_in] <;> omega
      have HME : Hid (8 - ((i : Int) + 1).toNat < 8 - ((i : Int)).toNat) := hid_of (by clear hwi; omega)
      clear hr hB hb hlt
      go_wp2_with (go_at_call 25; refine BC.out.mono ?_; rintro e w2 ⟨rfl, hB2⟩; have B2 := hid_of hB2; obtain ⟨Y, yr, HY⟩ := sto8 i HLT.out HX.out.1 (HX.out.2.1.below hB2); clear hB2)
      go_roundw
      case rel =>
        obtain ⟨t, r2, h1, h2⟩ := HY.out
        have hbw := HX.out.2.2.trans (B2.out.mono HX.out.2.2.size)
        exact ⟨i + 1, by simp [hwi], Nat.succ_le_of_lt HLT.out, r2, h1, h2, below_tqH hbw t (by intro k hk e; omega)⟩
      case measure => exact HME.out
    · obtain rfl : i = 8 := by omega
      obtain ⟨r, hr, hB, hb⟩ := HR.out
      have hr0 : r = [] := List.length_eq_zero_iff.1 (by omega)
      subst hr0
      rw [List.append_nil, show L8.take 8 = L8 from rfl] at hB
      have HO : Hid (wr.ownsRow w.heap.size 31 7 (.slice (some ⟨w.heap.size, 0, none⟩) 8 8) 8 (flat ttE L8)) := hid_of ⟨by rw [flat_len ttE 7 (fun _ => rfl)]; rfl, .inr ⟨w.heap.size, 8, _, rfl, Nat.le_refl _, hB, Nat.le_refl _, by unfold maxLen; omega, by simp [flat_len ttE 7 (fun _ => rfl)]; rfl, by rw [List.take_of_length_le]; simp [flat_len ttE 7 (fun _ => rfl)]; decide⟩⟩
      have HBB := hid_of hb
      clear hr hB hb
      go_wp2
      go_ret
      exact ⟨⟨some ⟨w.heap.size, 0, none⟩, 8, 8⟩, rfl, HO.out, HBB.out⟩
end Go.Proofs.YtgkfnfilomjphaaDoor
