/-
  Layer 7: what is read is written as the same bytes: the law's walk.
-/
import Derived.Test.YtjpaepmnmlpjkaaDed
import Derived.Test.YtjpaepmnmlpjkaaEnc
import Derived.Test.YtjpaepmnmlpjkaaSzr
namespace Go.Proofs.Ytjpaepmnmlpjkaa
set_option linter.unusedVariables false
set_option linter.unusedSimpArgs false
open Go.ChangeShapes Go.WideShapes Go.ChangeAt Go.RowKit
attribute [local go_sem ↓] loadO_seal storeO_seal

theorem Src.oct {w : World} {a : Option Addr} {len cap : Nat} {f : Nat → Int} (h : Src w a len cap f) : Oct f len := fun i hi => by
  rcases h.rd.2 with h0 | ⟨b', off', _, h2⟩
  · omega
  · exact (h2 i hi).2
theorem fnv_eq (f g : Nat → Int) : ∀ k, (∀ i, i < k → f i = g i) → fnv f k = fnv g k
  | 0, _ => rfl
  | k + 1, h => by rw [fnv, fnv, fnv_eq f g k (fun i hi => h i (by omega)), h k (by omega)]
theorem bl_get (f : Nat → Int) (n i : Nat) (hi : i < n) : (bl f n).getD i 0 = f i := by simp [bl, List.getD, hi]
theorem bl_seg (f : Nat → Int) (n : Nat) : bl f n = seg f 0 n := by unfold bl seg; exact List.map_congr_left fun j _ => by rw [Nat.zero_add]
/-- What Decode takes. -/
theorem dec_good {f : Nat → Int} {len : Nat} (h : (decR f len).2 = 0) : len ≤ 1048576 ∧ 8 ≤ len ∧ strOfNums (bl f 4) = markS ∧ gotW len f ((len - 4 : Nat) : Int) = fnv f (len - 4) ∧ (objS f (len - 4) ⟨4, false⟩).2.st = false ∧ ¬ (objS f (len - 4) ⟨4, false⟩).2.p < len - 4 ∧ rightB (objS f (len - 4) ⟨4, false⟩).1 = true ∧ (decR f len).1 = 0 := by
  have h0 := h
  unfold decR at h
  split at h
  · rename_i h1
    split at h
    · rename_i h2
      split at h
      · cases h
      · rename_i h3
        split at h
        · rename_i h4
          refine ⟨h1.1, h1.2.1, h1.2.2, h2, ?_, fun e => h3 (.inr e), h4, ?_⟩
          · cases hx : (objS f (len - 4) ⟨4, false⟩).2.st
            · rfl
            · exact absurd (.inl hx) h3
          · unfold decR
            rw [if_pos h1, if_pos h2, if_neg h3, if_pos h4]
        · cases h
    · cases h
  · cases h
theorem mark_back {f : Nat → Int} {len : Nat} (hf : Oct f len) (h4 : 4 ≤ len) (hm : strOfNums (bl f 4) = markS) : bl f 4 = markL := by
  have h1 := sL_nums (bl f 4) (fun x hx => by
    obtain ⟨j, hj, rfl⟩ := List.mem_map.1 hx
    have := List.mem_range.1 hj
    exact hf _ (by omega))
  rw [hm] at h1
  rw [← h1]
  exact mark_sL
/-- What Decode takes is what is written of it. -/
theorem dec_form {f : Nat → Int} {len : Nat} (hf : Oct f len) (h : (decR f len).2 = 0) : objL (objS f (len - 4) ⟨4, false⟩).1 = bl f len ∧ Fine (objS f (len - 4) ⟨4, false⟩).1 ∧ (bodyL (objS f (len - 4) ⟨4, false⟩).1).length ≤ 1048576 := by
  obtain ⟨h1, h2, h3, h4, h5, h6, h7, _⟩ := dec_good h
  obtain ⟨e, rfl⟩ : ∃ e, len = e + 4 := ⟨len - 4, by omega⟩
  rw [Nat.add_sub_cancel] at *
  have hfe : Oct f e := fun i hi => hf i (by omega)
  obtain ⟨_, hb⟩ := obj_form hfe (by omega) ⟨4, false⟩ h5
  obtain ⟨k, k1, k2, k3⟩ := hb (by show 4 ≤ e; omega)
  simp only at k1 k2 k3
  have hk : e = 4 + k := by omega
  refine ⟨?_, fine_read hfe (by omega) _ h5, by rw [k3, seg_len]; omega⟩
  have hbody : markL ++ bodyL (objS f e ⟨4, false⟩).1 = bl f e := by
    rw [k3, ← mark_back hf (by omega) h3, bl_seg, bl_seg, hk, seg_app]
  unfold objL
  rw [hbody, bl_len]
  have hfn : fnv (fun i => (bl f e).getD i 0) e = fnv f e := fnv_eq _ _ e fun i hi => bl_get f e i hi
  rw [hfn, ← h4, word_back hf e (by omega), bl_seg, bl_seg, seg_app, Nat.zero_add]
set_option maxHeartbeats 8000000 in
set_option maxRecDepth 20000 in
theorem one_bad (w : World) (a : Option Addr) (len cap : Nat) (f : Nat → Int) (h : Src w a len cap f) (hc : len ≤ cap) (hd : (decR f len).2 ≠ 0) : Calls Try.prog 6 #[.slice a len cap] w fun e w' => e = .returned (.bool true) ∧ Below w.heap.size w w' := by
  have SH : Hid (Calls Try.prog 8 #[] w _) := shown_any w
  have DC : Hid (∀ X, Below w.heap.size w X → Calls Try.prog 14 #[.slice a len cap] X fun e Y => e = .returned (.tuple #[.agg Oc.zero.cells, .int .i64 (decR f len).1, .int .i64 (decR f len).2]) ∧ ∃ Z, (storeO ⟨Y.heap.size, 0, none⟩ (.agg Oc.zero.cells)).run Try.prog (Y.alloc zeroO) = .ok () Z ∧ (loadO ⟨Y.heap.size, 0, none⟩).run Try.prog Z = .ok (.agg Oc.zero.cells) Z ∧ Hid (Below w.heap.size w Z)) := fun X hX => (decode_any X a len cap f (h.below hX) hc).mono fun e Y hh => by
    obtain ⟨c, h1, h2, h3, _⟩ := hh
    rw [h3 hd] at h1
    obtain ⟨Z, z1, z2, z3⟩ := storeO_run (zero_at Y) Oc.zero
    have hb : Below w.heap.size w Y := hX.trans (h2.mono hX.size)
    exact ⟨h1, Z, z1, loadO_run z2, Below.of_tq (hb.alloc hb.size _) z3 fun k hk => by have := hb.size; omega⟩
  have SM : Hid (∀ X, Calls Try.prog 13 #[.agg Oc.zero.cells, .agg Oc.zero.cells] X fun e w' => e = .returned (.bool true) ∧ Below X.heap.size X w') := fun X => same_zero X
  generalize (decR f len).1 = pl at *
  generalize (decR f len).2 = er at *
  have d1 : (er != 0) = true := by simpa using hd
  simp only [Oc.cells, Oc.zero, zeroO] at DC SM
  clear h hd
  go_enter Try.func6, Try.ntmps6
  go_wp2_with (first
    | (go_at_call 8; refine SH.out.mono ?_; rintro e w1 ⟨rfl, hb1⟩; have H1 := hid_of hb1; clear hb1)
    | (go_at_call 14; refine (DC.out _ H1.out).mono ?_; rintro e w2 ⟨rfl, Z, z1, z2, HZ⟩)
    | (go_at_call 13; refine (SM.out _).mono ?_; rintro e w3 ⟨rfl, hb3⟩))
  go_ret
  exact ⟨rfl, HZ.out.trans (hb3.mono HZ.out.size)⟩
set_option maxHeartbeats 8000000 in
set_option maxRecDepth 20000 in
theorem one_good (w : World) (a : Option Addr) (len cap : Nat) (f : Nat → Int) (h : Src w a len cap f) (hc : len ≤ cap) (hd : (decR f len).2 = 0) : Calls Try.prog 6 #[.slice a len cap] w fun e w' => e = .returned (.bool true) ∧ Below w.heap.size w w' := by
  obtain ⟨g1, g2, g3⟩ := dec_form h.oct hd
  have g4 := (dec_good hd).2.2.2.2.2.2
  have SH : Hid (Calls Try.prog 8 #[] w _) := shown_any w
  have DC : Hid (∀ X, Below w.heap.size w X → Calls Try.prog 14 #[.slice a len cap] X fun e Y => ∃ c Z, e = .returned (.tuple #[.agg (Oc.cells c), .int .i64 0, .int .i64 0]) ∧ (storeO ⟨Y.heap.size, 0, none⟩ (.agg c.cells)).run Try.prog (Y.alloc zeroO) = .ok () Z ∧ (loadO ⟨Y.heap.size, 0, none⟩).run Try.prog Z = .ok (.agg c.cells) Z ∧ Hid (Below w.heap.size w Z ∧ OAt Z Y.heap.size c ∧ ObR Z c (objS f (len - 4) ⟨4, false⟩).1)) := fun X hX => (decode_any X a len cap f (h.below hX) hc).mono fun e Y hh => by
    obtain ⟨c, h1, h2, _, h4⟩ := hh
    rw [hd, g4.2] at h1
    obtain ⟨B, b1, b2⟩ := h4 hd
    obtain ⟨Z, z1, z2, z3⟩ := storeO_run (zero_at Y) c
    have hb : Below w.heap.size w Y := hX.trans (h2.mono hX.size)
    have t : Tq Y Z (fun k => k = Y.heap.size) := (Tq.below (P := fun k => k = Y.heap.size) ((Below.refl _ _).alloc (Nat.le_refl _) _)).trans z3
    exact ⟨c, Z, h1, z1, loadO_run z2, Below.of_tq (hb.alloc hb.size _) z3 fun k hk => by have := hb.size; omega, z2, (b2.tq2 t fun k hk => by omega).rd g2.few⟩
  have EN : Hid (∀ X c, ObR X c (objS f (len - 4) ⟨4, false⟩).1 → Calls Try.prog 11 #[.agg c.cells] X fun e w' => ∃ a n k, e = .returned (.tuple #[.slice a n k, .int .i64 0]) ∧ (∃ B, X.heap.size ≤ B ∧ Ow w' B (.slice a n k) (objL (objS f (len - 4) ⟨4, false⟩).1)) ∧ Below X.heap.size X w') := fun X c hX => encode_yes X c _ hX g4.1 g2 (by omega)
  have RG : Hid (∀ X c, ObR X c (objS f (len - 4) ⟨4, false⟩).1 → Calls Try.prog 10 #[.agg c.cells] X fun e w' => e = .returned (.bool true) ∧ Below X.heap.size X w') := fun X c hX => (right_any X c _ hX).mono fun e Y hh => ⟨by rw [← g4.1]; exact hh.1, hh.2⟩
  have CV : Hid (∀ X, Below w.heap.size w X → (convert 35 9 (.slice a len cap)).run Try.prog X = .ok (.string (strOfNums (bl f len))) X) := fun X hX => conv_rd cap (h.below hX).rd
  rw [g1] at EN
  generalize (objS f (len - 4) ⟨4, false⟩).1 = o at *
  simp only [zeroO] at DC
  clear h hd g1 g2 g3 g4
  go_enter Try.func6, Try.ntmps6
  go_wp2_with (first
    | (go_at_call 8; refine SH.out.mono ?_; rintro e w1 ⟨rfl, hb1⟩; have H1 := hid_of hb1; clear hb1)
    | (go_at_call 14; refine (DC.out _ H1.out).mono ?_; rintro e w2 ⟨c, Z, rfl, z1, z2, HZ⟩)
    | (go_at_call 11; refine (EN.out _ c HZ.out.2.2).mono ?_; rintro e w3 ⟨ea, en, ek, rfl, how, hb3⟩; have l3 := loadO_run ((hb3.block _ HZ.out.2.1.lt).trans HZ.out.2.1); have R3 := hid_of (HZ.out.2.2.below hb3); have H3 := hid_of (And.intro how hb3); clear how hb3)
    | (go_at_call 10; refine (RG.out _ c R3.out).mono ?_; rintro e w4 ⟨rfl, hb4⟩; obtain ⟨B9, b1, b2⟩ := H3.out.1; have v1 := conv_ow b2 w4 (fun q hq _ => World.cell?_of_block (hb4.block q.block hq)); have H4 := hid_of (HZ.out.1.trans ((H3.out.2.mono HZ.out.1.size).trans (hb4.mono (Nat.le_trans HZ.out.1.size H3.out.2.size)))); have v2 := CV.out w4 H4.out; clear hb4 b1 b2))
  go_ret
  exact ⟨ret_bool (by simp), H4.out⟩
theorem one_any (w : World) (a : Option Addr) (len cap : Nat) (f : Nat → Int) (h : Src w a len cap f) (hc : len ≤ cap) : Calls Try.prog 6 #[.slice a len cap] w fun e w' => e = .returned (.bool true) ∧ Below w.heap.size w w' := by
  by_cases hd : (decR f len).2 = 0
  · exact one_good w a len cap f h hc hd
  · exact one_bad w a len cap f h hc hd
end Go.Proofs.Ytjpaepmnmlpjkaa
