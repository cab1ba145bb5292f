/-
  Layer 17: rising rows: upTo, least, without, with.
-/
import Derived.Test.YtmjflbleobmjdaaGreatDoorRwi
namespace Go.Proofs.YtmjflbleobmjdaaGreatDoor
set_option linter.unusedVariables false
set_option linter.unusedSimpArgs false
open Go.ChangeShapes Go.WideShapes Go.ChangeAt Go.RowKit

theorem Tryz.info3p : ∃ i0 : TypeInfo, Tryz.prog.info? 3 = some i0 ∧ i0.zero = some (.int .i64 0) ∧ i0.size = 1 ∧ i0.bytes = 8 := by
  obtain ⟨i0, hi, hz0, hz1, hz2⟩ := info_parts info3
  exact ⟨i0, hi, hz0, hz1, hz2⟩
theorem upTo_own {w X : World} {n : Nat} (h : FillV w w.heap.size n n 3 (fun i => .int .i64 (i : Int)) X) (hn : n ≤ 1000000) : OwI X w.heap.size (.slice (some ⟨w.heap.size, 0, none⟩) n n) (lst n fun _ => true) := by
  have hl : (lst n fun _ => true).length = n := by rw [lst_all]; simp
  obtain ⟨_, _, cur, hg, hs, hc⟩ := h
  have := OwI.mk (w := X) (B := w.heap.size) (g := w.heap.size) (c := n) (l := lst n fun _ => true) (cur := cur) (Nat.le_refl _) hg (by omega) (by unfold maxLen; omega) hs (by
    rw [lst_all]
    apply List.ext_getElem?
    intro j
    by_cases hj : j < n
    · rw [List.getElem?_take, if_pos (by simpa using hj)]
      have := hc j hj
      simp [ints, hj, this]
    · rw [List.getElem?_eq_none (by simp; omega), List.getElem?_eq_none (by simp [ints]; omega)])
  rwa [hl] at this
set_option maxHeartbeats 2000000 in
theorem upTo_any (n : Nat) (w : World) (hn : n ≤ 1000000) : Calls Tryz.prog 28 #[.int .i64 n] w fun e w' => ∃ v, e = .returned v ∧ OwI w' w.heap.size v (lst n fun _ => true) ∧ Below w.heap.size w w' := by
  obtain ⟨i0, hi, hz0, hz1, hz2⟩ := Tryz.info3p
  go_enter Tryz.func28, Tryz.ntmps28
  go_wp2_with (at_make; refine wpList_make_full _ rfl _ _ 50 rfl w.heap.size 3 i0 (.int .i64 0) 1 Tryz.underlying50 hi hz0 hz1 .i64 .i64 _ _ n rfl rfl (by omega) (by omega) (by rw [hz2]; omega) (by unfold maxLen; omega) (Nat.le_refl _) ?_; intro w2 hown2 hgrow2; have HF := hidD (FillV.start (fun i => .int .i64 (i : Int)) hown2 hgrow2); clear hown2 hgrow2)
  go_loopw [9] (fun i X => ∃ k : Nat, k ≤ n ∧ i = .int .i64 k ∧ FillV w w.heap.size n k 3 (fun i => .int .i64 (i : Int)) X) (fun i _ => n - (intOf i).toNat)
  case atStart => exact ⟨0, by omega, rfl, HF.out⟩
  case round =>
    obtain ⟨k, hk, rfl, hF⟩ := hrel
    have HF' := hidD hF
    clear HF
    by_cases hlt : k < n
    · obtain ⟨⟨v0, hv0⟩, hfz⟩ := hF.at hlt
      have i0 : (0 : Int) ≤ (k : Int) := by omega
      have i1 : (k : Int) < (n : Int) := by omega
      clear hF
      go_wp2
      go_roundw
      case rel => exact ⟨k + 1, by omega, by go_num, HF'.out.step hlt⟩
      case measure => simp [intOf]; omega
    · obtain rfl : k = n := by omega
      clear hF
      go_wp2
      go_ret
      exact ⟨_, rfl, upTo_own HF'.out hn, HF'.out.below⟩
/-! ### The least ones. -/
theorem RowI.take {A : Nat → Prop} {w : World} {b off c k : Nat} {l : List Int} (hl : l.length ≤ 1000000) (hk : k ≤ l.length) (h1 : l.length ≤ c) (h2 : c ≤ 9223372036854775807) (hA : A b) (hb : b < w.heap.size) (hc : ∀ j, j < l.length → w.cell? ⟨b, off + j, none⟩ = some (.int .i64 (l.getD j 0))) : RowI A w (.slice (some ⟨b, off, none⟩) k c) (l.take k) := by
  have e : (l.take k).length = k := by simp; omega
  refine ⟨by omega, some ⟨b, off, none⟩, c, by rw [e], by omega, h2, fun _ => ⟨b, off, rfl, hA, hb, fun j hj => ?_⟩⟩
  rw [hc j (by omega)]
  simp only [List.getD_eq_getElem?_getD, List.getElem?_take, if_pos (show j < k by omega)]
theorem RowI.drop {A : Nat → Prop} {w : World} {b off c k : Nat} {l : List Int} (hl : l.length ≤ 1000000) (hk : k ≤ l.length) (h1 : l.length ≤ c) (h2 : c ≤ 9223372036854775807) (hA : A b) (hb : b < w.heap.size) (hc : ∀ j, j < l.length → w.cell? ⟨b, off + j, none⟩ = some (.int .i64 (l.getD j 0))) : RowI A w (.slice (some ⟨b, off + k, none⟩) (l.length - k) (c - k)) (l.drop k) := by
  have e : (l.drop k).length = l.length - k := by simp
  refine ⟨by omega, some ⟨b, off + k, none⟩, c - k, by rw [e], by omega, by omega, fun _ => ⟨b, off + k, rfl, hA, hb, fun j hj => ?_⟩⟩
  have := hc (k + j) (by omega)
  rw [Nat.add_assoc, this]
  simp only [List.getD_eq_getElem?_getD, List.getElem?_drop]
set_option maxHeartbeats 2000000 in
theorem least_no {A : Nat → Prop} (v : Value) (l : List Int) (k : Int) (w : World) (h : RowI A w v l) (hk : (l.length : Int) < k) : Calls Tryz.prog 26 #[v, .int .i64 k] w fun e w' => e = .returned (.tuple #[.slice none 0 0, .slice none 0 0, .bool false]) ∧ w' = w := by
  obtain ⟨hl, a, c, rfl, h1, h2, h3⟩ := h
  clear h3
  have d : decide (k > (l.length : Int)) = true := decide_eq_true hk
  go_enter Tryz.func26, Tryz.ntmps26
  go_wp2
  go_ret3
  exact ⟨rfl, rfl⟩
theorem RowI.none_any (A : Nat → Prop) (w : World) (a : Option Addr) (c : Nat) (h : c ≤ 9223372036854775807) : RowI A w (.slice a 0 c) [] := ⟨by simp, a, c, rfl, by simp, h, fun h => absurd rfl h⟩
set_option maxHeartbeats 2000000 in
theorem least_yes {A : Nat → Prop} (v : Value) (l : List Int) (k : Nat) (w : World) (h : RowI A w v l) (hk : k ≤ l.length) : Calls Tryz.prog 26 #[v, .int .i64 k] w fun e w' => ∃ v1 v2, e = .returned (.tuple #[v1, v2, .bool true]) ∧ RowI A w v1 (l.take k) ∧ RowI A w v2 (l.drop k) ∧ ∃ q, w' = w.drewN q := by
  obtain ⟨hl, a, c, rfl, h1, h2, h3⟩ := h
  have d : decide ((k : Int) > (l.length : Int)) = false := decide_eq_false (by omega)
  have k0 : (0 : Int) ≤ (k : Int) := by omega
  have k1 : (k : Int) ≤ (l.length : Int) := by omega
  have k2 : (k : Int) ≤ (c : Int) := by omega
  have l1 : (l.length : Int) ≤ (c : Int) := by omega
  by_cases hn : l = []
  · subst hn
    have : k = 0 := by simpa using hk
    subst this
    clear h3 k1
    go_enter Tryz.func26, Tryz.ntmps26
    go_wp2
    go_quiet (fail)
    go_wp2
    all_goals
      go_ret3
      exact ⟨_, _, rfl, RowI.none_any _ _ _ _ (by omega), RowI.none_any _ _ _ _ (by omega), _, rfl⟩
  · obtain ⟨b, off, rfl, hA, hb, hc⟩ := h3 hn
    have HC := hidD hc
    clear hc h3
    go_enter Tryz.func26, Tryz.ntmps26
    go_wp2
    go_quiet (fail)
    go_wp2
    · rename_i hck
      go_ret3
      refine ⟨_, _, rfl, RowI.take hl hk (by omega) (by omega) hA hb HC.out, ?_, _, rfl⟩
      have e : l.drop k = [] := List.drop_eq_nil_of_le (by omega)
      have e2 : l.length - k = 0 := by omega
      rw [e, e2]
      exact RowI.none_any _ _ _ _ (by omega)
    · go_ret3
      exact ⟨_, _, rfl, RowI.take hl hk h1 h2 hA hb HC.out, RowI.drop hl hk h1 h2 hA hb HC.out, _, rfl⟩
/-! ### Without some. -/
theorem with_step {l r : List Int} {x : Int} (h : x ∈ l) : withoutP l (x :: r) = withoutP (l.filter (· != x)) r := by rw [withoutP, if_pos h]
theorem with_stop {l r : List Int} {x : Int} (h : x ∉ l) : withoutP l (x :: r) = none := by rw [withoutP, if_neg h]
theorem drop_at {s : List Int} {k : Nat} (h : k < s.length) : s.drop k = s.getD k 0 :: s.drop (k + 1) := by
  rw [List.drop_eq_getElem_cons h, List.getD_eq_getElem?_getD, List.getElem?_eq_getElem h]; rfl
/-- What without leaves: a row without these, or that one is not there. -/
def WoP (w : World) (r : Option (List Int)) (e : Ending) (w' : World) : Prop := match r with
  | some l' => ∃ v', e = .returned (.tuple #[v', .bool true]) ∧ OwI w' w.heap.size v' l'
  | none => e = .returned (.tuple #[.slice none 0 0, .bool false])
/-- While it goes: what is left so far. -/
def WoI (w : World) (l s : List Int) (k : Nat) (v : Value) (X : World) : Prop := ∃ m, OwI X w.heap.size v m ∧ Rise m ∧ m.length ≤ 1000000 ∧ withoutP l s = withoutP m (s.drop k) ∧ Below w.heap.size w X
theorem cell_of_rowI {A : Nat → Prop} {w X : World} {v : Value} {s : List Int} (h : RowI A w v s) (hb : Below w.heap.size w X) {k : Nat} (hk : k < s.length) : ∃ b off c, v = .slice (some ⟨b, off, none⟩) s.length c ∧ X.cell? ⟨b, off + k, none⟩ = some (.int .i64 (s.getD k 0)) := by
  obtain ⟨hl, a, c, rfl, h1, h2, h3⟩ := h
  obtain ⟨b, off, rfl, hA, hlt, hc⟩ := h3 (fun e => by rw [e] at hk; cases hk)
  exact ⟨b, off, c, rfl, (hb.cell (p := ⟨b, _, none⟩) hlt).trans (hc k hk)⟩
set_option maxHeartbeats 4000000 in
theorem without_any {A A' : Nat → Prop} (v sv : Value) (l s : List Int) (w : World) (h : RowI A w v l) (hr : Rise l) (hs : RowI A' w sv s) : Calls Tryz.prog 21 #[v, sv] w fun e w' => WoP w (withoutP l s) e w' ∧ Below w.heap.size w w' := by
  have HV := hidD (h.ex)
  have HS := hidD hs
  obtain ⟨hl, a, c, rfl, h1, h2, h3⟩ := hs
  clear h3
  have HL := hidD h.len
  have HR := hidD hr
  have HCL := hidD (clone_row h)
  obtain ⟨_, a0, c0, rfl, _⟩ := h
  clear hr
  go_enter Tryz.func21, Tryz.ntmps21
  go_wp2_with (go_at_call 44; refine HCL.out.mono ?_; rintro e w1 ⟨v1, rfl, ho1, hb1⟩; have HI := hidD (⟨l, ho1, HR.out, HL.out, by rw [List.drop_zero], hb1⟩ : WoI w l s 0 v1 w1); clear ho1 hb1)
  go_loopw [6, 15] (fun s6 i X => ∃ (k : Nat) (v6 : Value), s6 = v6 ∧ k ≤ s.length ∧ i = .int .i64 k ∧ WoI w l s k v6 X) (fun _ i _ => s.length - (intOf i).toNat)
  case atStart => exact ⟨0, _, rfl, by omega, rfl, HI.out⟩
  case round =>
    obtain ⟨k, v6, h6, hk, rfl, m, hm, hmr, hml, hme, hmb⟩ := hrel
    obtain rfl := h6.symm
    clear HI
    by_cases hlt : k < s.length
    · obtain ⟨b, off, c1, hv1, hcell⟩ := cell_of_rowI HS.out hmb hlt
      obtain ⟨rfl, rfl⟩ : a = some ⟨b, off, none⟩ ∧ c = c1 := by simp at hv1; exact hv1
      rw [drop_at hlt] at hme
      generalize s.getD k 0 = x at hcell hme
      have FA := hidD (fun X (hX : OwI X w.heap.size v6 m) => find_any hX hmr hml x)
      have HM := hidD hm
      have HB := hidD hmb
      have HE := hidD hme
      have i0 : (0 : Int) ≤ (k : Int) := by omega
      have i1 : (k : Int) < (s.length : Int) := by omega
      have d1 : decide ((k : Int) < (s.length : Int)) = true := decide_eq_true (by omega)
      clear hm hmb hme hv1
      by_cases hx : x ∈ m
      · have hd : decide (x ∈ m) = true := decide_eq_true hx
        have HX := hidD hx
        have DA := hidD (fun X (hX : OwI X w.heap.size v6 m) => delete_any hX hmr hml x hx)
        have hb3 := count_lt hmr hx
        generalize hc : m.countP (· < x) = t at FA DA hb3
        have HT := hidD hc
        have t0 : (t : Int) ≤ 1000000 := by omega
        rw [hd] at FA
        clear hd hx hc hb3
        go_wp2_with (first
          | (go_at_call 45; refine (FA.out _ HM.out).mono ?_; rintro e w2 ⟨rfl, q, rfl⟩)
          | (go_at_call 46; refine (DA.out _ (HM.out.drewN _)).mono ?_; rintro e w3 ⟨v3, rfl, ho3, hg3, he3⟩; have HO3 := hidD ho3; have HG3 := hidD hg3; clear ho3 hg3 he3))
        go_roundw
        case rel =>
          refine ⟨k + 1, _, rfl, by omega, by go_num, m.filter (· != x), HO3.out, rise_filter _ hmr, Nat.le_trans (List.length_filter_le _ _) hml, ?_, ?_⟩
          · rw [HE.out, with_step HX.out]
          · exact grown_below (bdrewN HB.out q) HG3.out (fun y hy => (HM.out.lt y hy).1) (by have := HB.out.size; simpa using this)
        case measure => simp [intOf]; omega
      · have hd : decide (x ∈ m) = false := decide_eq_false hx
        have HX := hidD hx
        rw [hd] at FA
        clear hd hx
        go_wp2_with (go_at_call 45; refine (FA.out _ HM.out).mono ?_; rintro e w2 ⟨rfl, q, rfl⟩)
        go_ret2
        refine ⟨?_, bdrewN HB.out q⟩
        rw [HE.out, with_stop HX.out]
        rfl
    · have e : s.drop k = [] := List.drop_eq_nil_of_le (by omega)
      have d1 : decide ((k : Int) < (s.length : Int)) = false := decide_eq_false (by omega)
      have HE := hidD hme
      have HM := hidD hm
      have HB := hidD hmb
      have HZ := hidD e
      clear hme hm hmb e
      go_wp2
      go_ret2
      refine ⟨?_, HB.out⟩
      rw [HE.out, HZ.out]
      exact ⟨v6, rfl, HM.out⟩
end Go.Proofs.YtmjflbleobmjdaaGreatDoor
