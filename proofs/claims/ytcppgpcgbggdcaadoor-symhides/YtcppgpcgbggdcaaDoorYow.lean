/-
  Layer 13: what is read is written as the same bytes: the law's walk.
-/
import Derived.Test.YtcppgpcgbggdcaaDoorYse
namespace Go.Proofs.YtcppgpcgbggdcaaDoor
set_option linter.unusedVariables false
set_option linter.unusedSimpArgs false
open Go.ChangeShapes Go.WideShapes Go.ChangeAt Go.RowKit Go.Shelf
attribute [local go_sem ↓] ldS_seal stS_seal

theorem Src.oct {w : World} {a : Option Addr} {len cap : Nat} {f : Nat → Int} (h : Src w a len cap f) : Oct f len := fun i hi => by
  rcases h.rd.2 with h0 | ⟨b', off', _, h2⟩
  · omega
  · exact (h2 i hi).2
theorem bl_seg (f : Nat → Int) (n : Nat) : bl f n = seg f 0 n := by unfold bl seg; exact List.map_congr_left fun j _ => by rw [Nat.zero_add]
/-- What Decode takes. -/
theorem dec_good {f : Nat → Int} {len : Nat} (h : (decS f len).2 = 0) : len ≤ 1048576 ∧ 4 ≤ len ∧ strOfNums (bl f 4) = markY ∧ (symS f len ⟨4, false⟩).2.st = false ∧ ¬ (symS f len ⟨4, false⟩).2.p < len ∧ rightP (symS f len ⟨4, false⟩).1 = true ∧ (decS f len).1 = 0 := by
  have h0 := h
  unfold decS at h
  split at h
  · rename_i h1
    split at h
    · cases h
    · rename_i h3
      split at h
      · rename_i h4
        refine ⟨h1.1, h1.2.1, h1.2.2, ?_, fun e => h3 (.inr e), h4, ?_⟩
        · cases hx : (symS f len ⟨4, false⟩).2.st
          · rfl
          · exact absurd (.inl hx) h3
        · unfold decS
          rw [if_pos h1, if_neg h3, if_pos h4]
      · cases h
  · cases h
theorem mark_sL : sL markY = markL := by kernel_rfl
theorem mark_back {f : Nat → Int} {len : Nat} (hf : Oct f len) (h4 : 4 ≤ len) (hm : strOfNums (bl f 4) = markY) : bl f 4 = markL := by
  have h1 := sL_nums (bl f 4) (fun x hx => by
    obtain ⟨j, hj, rfl⟩ := List.mem_map.1 hx
    have := List.mem_range.1 hj
    exact hf _ (by omega))
  rw [hm] at h1
  rw [← h1]
  exact mark_sL
/-- What Decode takes is what is written of it. -/
theorem dec_form {f : Nat → Int} {len : Nat} (hf : Oct f len) (h : (decS f len).2 = 0) : markL ++ symP (symS f len ⟨4, false⟩).1 = bl f len := by
  obtain ⟨h1, h2, h3, h4, h5, h6, _⟩ := dec_good h
  obtain ⟨_, hb⟩ := sym_form hf (by omega) ⟨4, false⟩ h4
  obtain ⟨k, k1, k2, k3⟩ := hb (by show 4 ≤ len; omega)
  simp only at k1 k2 k3
  have hk : len = 4 + k := by omega
  rw [k3, ← mark_back hf (by omega) h3, bl_seg, bl_seg, hk, seg_app, Nat.zero_add]
def oneA : Sy := ⟨⟨#[65]⟩, [], [], []⟩
def cA : Sc := ⟨⟨#[65]⟩, ⟨none, 0, 0⟩, ⟨none, 0, 0⟩, ⟨none, 0, 0⟩⟩
theorem rdv_nil (w : World) (k : Nat) : RdV w k ⟨none, 0, 0⟩ 0 [] := ⟨rfl, by simp, by omega, .inl rfl⟩
theorem cA_rd (w : World) : SyR w cA oneA [] := ⟨rfl, rdv_nil w 5, rdv_nil w 5, rfl, rdv_nil w 3, fun _ h => (by cases h), by decide, fun _ h => (by cases h), fun _ h => (by cases h), fun _ h => (by cases h)⟩
theorem zero_rd (w : World) : SyR w Sc.zero ⟨⟨#[]⟩, [], [], []⟩ [] := ⟨rfl, rdv_nil w 5, rdv_nil w 5, rfl, rdv_nil w 3, fun _ h => (by cases h), by decide, fun _ h => (by cases h), fun _ h => (by cases h), fun _ h => (by cases h)⟩
theorem a_right : rightP oneA = true := of_decide_eq_true (by kernel_rfl)
theorem a_bytes : markL ++ symP oneA = [67, 82, 83, 49, 1, 65, 0, 0, 0] := by kernel_rfl
theorem a_str : strOfNums [67, 82, 83, 49, 1, 65, 0, 0, 0] = ⟨#[67, 82, 83, 49, 1, 65, 0, 0, 0]⟩ := by kernel_rfl
set_option maxHeartbeats 4000000 in
set_option maxRecDepth 20000 in
theorem shown_any (w : World) (hv : Vs w) : Calls Tryd.prog 8 #[] w fun e w' => e = .returned (.bool true) ∧ Below w.heap.size w w' := by
  have EN : Hid (Calls Tryd.prog 11 #[.agg #[.string ⟨#[65]⟩, .slice none 0 0, .slice none 0 0, .slice none 0 0]] w fun e w' => ∃ a n k, e = .returned (.tuple #[.slice a n k, .int .i64 0]) ∧ (convert 30 9 (.slice a n k)).run Tryd.prog w' = .ok (.string ⟨#[67, 82, 83, 49, 1, 65, 0, 0, 0]⟩) w' ∧ Hid (Below w.heap.size w w')) := hid_of ((encode_yes w hv cA oneA [] (cA_rd w) a_right).mono fun e w' hh => by
    obtain ⟨a, n, k, h1, ⟨B, hB, ho⟩, hb⟩ := hh
    rw [a_bytes] at ho
    have hc := conv_ow ho w' (fun _ _ _ => rfl)
    rw [a_str] at hc
    exact ⟨a, n, k, h1, hc, hb⟩)
  clear hv
  go_enter Tryd.func8, Tryd.ntmps8
  go_wp2_with (go_at_call 11; refine EN.out.mono ?_; rintro e w1 ⟨a, n, k, rfl, hc, HB⟩)
  go_ret
  exact ⟨rfl, HB.out⟩
set_option maxHeartbeats 8000000 in
set_option maxRecDepth 20000 in
theorem one_bad (w : World) (hv : Vs w) (a : Option Addr) (len cap : Nat) (f : Nat → Int) (h : Src w a len cap f) (hc : len ≤ cap) (hd : (decS f len).2 ≠ 0) : Calls Tryd.prog 5 #[.slice a len cap] w fun e w' => e = .returned (.bool true) ∧ Below w.heap.size w w' := by
  have SH : Hid (Calls Tryd.prog 8 #[] w _) := shown_any w hv
  have DC : Hid (∀ X, Below w.heap.size w X → Calls Tryd.prog 17 #[.slice a len cap] X fun e Y => e = .returned (.tuple #[.agg Sc.zero.cells, .int .i64 (decS f len).1, .int .i64 (decS f len).2]) ∧ ∃ Z, (stT 26 ⟨Y.heap.size, 0, none⟩ (.agg Sc.zero.cells)).run Tryd.prog (Y.alloc (.cells Sc.zero.cells 26)) = .ok () Z ∧ (ldT 26 ⟨Y.heap.size, 0, none⟩).run Tryd.prog Z = .ok (.agg Sc.zero.cells) Z ∧ Hid (Below w.heap.size w Z)) := hid_of fun X hX => (decode_any X (hv.below hX hv.big) a len cap f (h.below hX) hc).mono fun e Y hh => by
    obtain ⟨c, h1, h2, h3, _⟩ := hh
    rw [h3 hd] at h1
    obtain ⟨Z, z1, z2, z3⟩ := stT_run Sc.zero.cells (BA.new Y 26 Sc.zero.cells) rfl (by kernel_rfl) (Sc.one _)
    have bY : Below Y.heap.size Y Z := ((Below.refl _ _).alloc (Nat.le_refl _) _).trans (z3.bel (by simp) (Nat.le_refl _))
    have hb : Below w.heap.size w Y := hX.trans (h2.mono hX.size)
    exact ⟨h1, Z, z1, ldT_run z2 Tryd.underlying26 rfl (by kernel_rfl), hb.trans (bY.mono hb.size)⟩
  have SM : Hid (∀ X, Calls Tryd.prog 15 #[.agg Sc.zero.cells, .agg Sc.zero.cells] X fun e w' => e = .returned (.bool true) ∧ Below X.heap.size X w') := hid_of fun X => same_eq X Sc.zero Sc.zero _ [] [] (zero_rd X) (zero_rd X)
  generalize (decS f len).1 = pl at *
  generalize (decS f len).2 = er at *
  have d1 : (er != 0) = true := by simpa using hd
  simp only [Sc.cells, Sc.zero] at DC SM
  clear h hd hv
  go_enter Tryd.func5, Tryd.ntmps5
  go_wp2_with (first
    | (go_at_call 8; refine SH.out.mono ?_; rintro e w1 ⟨rfl, hb1⟩; have H1 := hid_of hb1; clear hb1)
    | (go_at_call 17; refine (DC.out _ H1.out).mono ?_; rintro e w2 ⟨rfl, Z, z1, z2, HZ⟩)
    | (go_at_call 15; refine (SM.out _).mono ?_; rintro e w3 ⟨rfl, hb3⟩))
  go_ret
  exact ⟨rfl, HZ.out.trans (hb3.mono HZ.out.size)⟩
set_option maxHeartbeats 8000000 in
set_option maxRecDepth 20000 in
theorem one_good (w : World) (hv : Vs w) (a : Option Addr) (len cap : Nat) (f : Nat → Int) (h : Src w a len cap f) (hc : len ≤ cap) (hd : (decS f len).2 = 0) : Calls Tryd.prog 5 #[.slice a len cap] w fun e w' => e = .returned (.bool true) ∧ Below w.heap.size w w' := by
  have g1 := dec_form h.oct hd
  obtain ⟨g2, _, _, _, _, g6, g7⟩ := dec_good hd
  have SH : Hid (Calls Tryd.prog 8 #[] w _) := shown_any w hv
  have DC : Hid (∀ X, Below w.heap.size w X → Calls Tryd.prog 17 #[.slice a len cap] X fun e Y => ∃ c l Z, e = .returned (.tuple #[.agg (Sc.cells c), .int .i64 0, .int .i64 0]) ∧ (stT 26 ⟨Y.heap.size, 0, none⟩ (.agg c.cells)).run Tryd.prog (Y.alloc (.cells Sc.zero.cells 26)) = .ok () Z ∧ (ldT 26 ⟨Y.heap.size, 0, none⟩).run Tryd.prog Z = .ok (.agg c.cells) Z ∧ Hid (Below w.heap.size w Z ∧ BA Z Y.heap.size 26 c.cells ∧ SyR Z c (symS f len ⟨4, false⟩).1 l)) := hid_of fun X hX => (decode_any X (hv.below hX hv.big) a len cap f (h.below hX) hc).mono fun e Y hh => by
    obtain ⟨c, h1, h2, _, h4⟩ := hh
    rw [hd, g7] at h1
    obtain ⟨B, b1, b2⟩ := h4 hd
    obtain ⟨l, hl⟩ := b2.rd g2
    obtain ⟨Z, z1, z2, z3⟩ := stT_run c.cells (BA.new Y 26 Sc.zero.cells) rfl (by kernel_rfl) (Sc.one _)
    have bY : Below Y.heap.size Y Z := ((Below.refl _ _).alloc (Nat.le_refl _) _).trans (z3.bel (by simp) (Nat.le_refl _))
    have hb : Below w.heap.size w Y := hX.trans (h2.mono hX.size)
    exact ⟨c, l, Z, h1, z1, ldT_run z2 Tryd.underlying26 rfl (by kernel_rfl), hid_of ⟨hb.trans (bY.mono hb.size), z2, hl.below bY⟩⟩
  have EN : Hid (∀ X c l, Below w.heap.size w X → SyR X c (symS f len ⟨4, false⟩).1 l → Calls Tryd.prog 11 #[.agg c.cells] X fun e w' => ∃ a n k, e = .returned (.tuple #[.slice a n k, .int .i64 0]) ∧ (∃ B, X.heap.size ≤ B ∧ Ow w' B (.slice a n k) (markL ++ symP (symS f len ⟨4, false⟩).1)) ∧ Below X.heap.size X w') := hid_of fun X c l hb hX => encode_yes X (hv.below hb hv.big) c _ l hX g6
  have RG : Hid (∀ X c l, Below w.heap.size w X → SyR X c (symS f len ⟨4, false⟩).1 l → Calls Tryd.prog 10 #[.agg c.cells] X fun e w' => e = .returned (.bool true) ∧ Below X.heap.size X w') := hid_of fun X c l hb hX => (right_any X (hv.below hb hv.big) c _ l hX).mono fun e Y hh => ⟨by rw [hh.1, rightS_P hX.pl, g6], hh.2⟩
  have CV : Hid (∀ X, Below w.heap.size w X → (convert 30 9 (.slice a len cap)).run Tryd.prog X = .ok (.string (strOfNums (bl f len))) X) := hid_of fun X hX => conv_rd cap (h.below hX).rd
  rw [g1] at EN
  generalize (symS f len ⟨4, false⟩).1 = o at *
  simp only [show Sc.zero.cells = #[.string ⟨#[]⟩, .slice none 0 0, .slice none 0 0, .slice none 0 0] from rfl] at DC
  clear h hd g1 g2 g6 g7 hv
  go_enter Tryd.func5, Tryd.ntmps5
  go_wp2_with (first
    | (go_at_call 8; refine SH.out.mono ?_; rintro e w1 ⟨rfl, hb1⟩; have H1 := hid_of hb1; clear hb1)
    | (go_at_call 17; refine (DC.out _ H1.out).mono ?_; rintro e w2 ⟨c, l, Z, rfl, z1, z2, HZ⟩)
    | (go_at_call 11; refine (EN.out _ c l HZ.out.1 HZ.out.2.2).mono ?_; rintro e w3 ⟨ea, en, ek, rfl, how, hb3⟩; have l3 := ldT_run (HZ.out.2.1.below hb3) Tryd.underlying26 rfl (by kernel_rfl); have R3 := hid_of (And.intro (HZ.out.1.trans (hb3.mono HZ.out.1.size)) (HZ.out.2.2.below hb3)); have H3 := hid_of (And.intro how hb3); clear how hb3)
    | (go_at_call 10; refine (RG.out _ c l R3.out.1 R3.out.2).mono ?_; rintro e w4 ⟨rfl, hb4⟩; obtain ⟨B9, b1, b2⟩ := H3.out.1; have v1 := conv_ow b2 w4 (fun q hq _ => World.cell?_of_block (hb4.block q.block hq)); have H4 := hid_of (R3.out.1.trans (hb4.mono R3.out.1.size)); have v2 := CV.out w4 H4.out; clear hb4 b1 b2))
  go_ret
  exact ⟨ret_bool (by simp), H4.out⟩
theorem one_any (w : World) (hv : Vs w) (a : Option Addr) (len cap : Nat) (f : Nat → Int) (h : Src w a len cap f) (hc : len ≤ cap) : Calls Tryd.prog 5 #[.slice a len cap] w fun e w' => e = .returned (.bool true) ∧ Below w.heap.size w w' := by
  by_cases hd : (decS f len).2 = 0
  · exact one_good w hv a len cap f h hc hd
  · exact one_bad w hv a len cap f h hc hd
end Go.Proofs.YtcppgpcgbggdcaaDoor
