/-
  What a line says, and its operands: layer 6's saidBy and operandsOf, the program's, of every text.
-/
import Derived.Test.YtkidfnhgknkpiaaGreatDoorCut
import Derived.Test.YtkidfnhgknkpiaaGreatDoorOwn
namespace Go.Proofs.YtkidfnhgknkpiaaGreatDoor
set_option linter.unusedVariables false
set_option linter.unusedSimpArgs false
open Go.ChangeShapes Go.WideShapes Go.ChangeAt Go.RowKit

def saidP (l : Bs) : Bs := trimP (cutB [59].contains l)
def operandsP (l : Bs) : List Bs := (parts 44 l).map trimP
theorem cutB_cons (p : UInt8 → Bool) (x : UInt8) (r : Bs) : cutB p (x :: r) = if p x then [] else x :: cutB p r := by cases h : p x <;> simp [cutB, h]
theorem cutR_cons (p : UInt8 → Bool) (x : UInt8) (r : Bs) : cutR p (x :: r) = if p x then r else cutR p r := by cases h : p x <;> simp [cutR, h]
theorem cutH_cons (p : UInt8 → Bool) (x : UInt8) (r : Bs) : cutH p (x :: r) = (p x || cutH p r) := by simp [cutH]
theorem cutB_len (p : UInt8 → Bool) (l : Bs) : (cutB p l).length ≤ l.length := (List.takeWhile_sublist _).length_le
theorem cutR_len (p : UInt8 → Bool) : ∀ l : Bs, (cutR p l).length ≤ l.length ∧ (cutH p l = true → (cutR p l).length < l.length)
  | [] => ⟨by simp [cutR], by simp [cutH]⟩
  | x :: r => by
    have ih := cutR_len p r
    rw [cutR_cons, cutH_cons]
    cases hx : p x
    · simp only [Bool.false_eq_true, if_false, Bool.false_or, List.length_cons]
      exact ⟨by omega, fun h => by have := ih.2 h; omega⟩
    · simp
theorem one_has (c x : UInt8) : [c].contains x = decide (x = c) := by simp
theorem parts_hit (c : UInt8) : ∀ l : Bs, cutH [c].contains l = true → parts c l = cutB [c].contains l :: parts c (cutR [c].contains l)
  | [], h => by simp [cutH] at h
  | x :: r, h => by
    rw [cutH_cons, one_has] at h
    rw [cutB_cons, cutR_cons, one_has]
    by_cases hx : x = c
    · simp [parts, hx]
    · simp only [hx, decide_false, Bool.false_or] at h
      have ih := parts_hit c r h
      rw [parts, if_neg hx, ih]
      simp [hx]
theorem parts_miss (c : UInt8) : ∀ l : Bs, cutH [c].contains l = false → parts c l = [l] ∧ cutB [c].contains l = l
  | [], h => ⟨rfl, rfl⟩
  | x :: r, h => by
    rw [cutH_cons, one_has, Bool.or_eq_false_iff] at h
    have hx : x ≠ c := by simpa using h.1
    have ih := parts_miss c r h.2
    rw [cutB_cons, one_has, ih.2]
    exact ⟨by rw [parts, if_neg hx, ih.1]; rfl, by simp [hx]⟩
theorem trim_len (l : Bs) : (trimP l).length ≤ l.length := by
  rw [trimP_eq]
  have h1 := (List.dropWhile_sublist blk (l := l.reverse)).length_le
  have h2 := (List.dropWhile_sublist blk (l := (l.reverse.dropWhile blk).reverse)).length_le
  rw [List.length_reverse] at h1 h2
  omega
theorem asc1 (c : UInt8) (hc : c.toNat < 128) : ∀ j (h : j < (⟨#[c]⟩ : ByteArray).size), ((⟨#[c]⟩ : ByteArray)[j]'h).toNat < 128 := fun j h => by
  have : j = 0 := by simp [ByteArray.size] at h; omega
  subst this; exact hc
theorem said_any (s : ByteArray) (hs : s.size ≤ 9223372036854775806) (w : World) :
    Calls Tryz.prog 35 #[.string s] w fun e w' => e = .returned (.string (bs (saidP s.data.toList))) ∧ Below w.heap.size w w' := by
  have hC := cut_any s ⟨#[59]⟩ (asc1 59 (by decide)) (by decide) hs w
  have hT : ∀ w, Calls Tryz.prog 61 #[.string (bs (cutB [59].contains s.data.toList))] w fun e w' => e = .returned (.string (bs (saidP s.data.toList))) ∧ Below w.heap.size w w' := fun w => by
    have := trim_any (bs (cutB [59].contains s.data.toList)) w (by rw [bs_size]; have := cutB_len [59].contains s.data.toList; simp only [Array.length_toList] at this; simp only [ByteArray.size] at hs; omega)
    rwa [bs_data] at this
  go_enter Tryz.func35, Tryz.ntmps35
  go_wp2_with (first | (go_at_call 60; refine hC.mono ?_; rintro e w1 ⟨rfl, hb⟩) | (go_at_call 61; refine (hT _).mono ?_; rintro e w2 ⟨rfl, hb2⟩))
  go_ret
  exact ⟨rfl, hb.trans (hb2.mono hb.size)⟩
set_option maxHeartbeats 1000000 in
theorem operands_any (l : Bs) (hl : l.length ≤ 1000000) (w : World) :
    Calls Tryz.prog 62 #[.string (bs l)] w fun e w' => ∃ v, e = .returned v ∧ w'.ownsRow w.heap.size 9 1 v (operandsP l).length (strs (operandsP l)) ∧ Below w.heap.size w w' := by
  obtain ⟨i0, hi0, hz0, hz1, hz2⟩ := info_parts info9'
  go_enter Tryz.func62, Tryz.ntmps62
  go_wp2
  go_loopg [0, 3, 4] (l.length + 1) (fun gf s0 s3 s4 wx => ∃ (r : Bs) (more : Bool) (d : List Bs), s0 = .string (bs r) ∧ s4 = .bool more ∧ wx.ownsRow w.heap.size 9 1 s3 d.length (strs d) ∧ Below w.heap.size w wx ∧ r.length + d.length ≤ l.length + 1 ∧ (more = true → r.length + d.length ≤ l.length ∧ r.length + 1 ≤ gf ∧ d ++ operandsP r = operandsP l) ∧ (more = false → d = operandsP l))
  case atStart => exact ⟨l, true, [], rfl, rfl, ⟨rfl, .inl ⟨rfl, rfl⟩⟩, Below.refl _ _, by simp, fun _ => ⟨by simp, by omega, by simp⟩, fun h => by cases h⟩
  case round =>
    obtain ⟨r, more, d, rfl, rfl, hown, hbw, hlen, hmt, hmf⟩ := hrel
    cases more
    · have hd := hmf rfl
      clear hmf hmt
      go_wp2
      go_ret
      exact ⟨_, rfl, hd ▸ hown, hbw⟩
    · obtain ⟨g1, g2, g3⟩ := hmt rfl
      obtain ⟨g', rfl⟩ : ∃ g', gk = g' + 1 := ⟨gk - 1, by omega⟩
      have hC := cut_any (bs r) ⟨#[44]⟩ (asc1 44 (by decide)) (by decide) (by rw [bs_size]; omega)
      rw [bs_data] at hC
      have hT : ∀ w, Calls Tryz.prog 61 #[.string (bs (cutB [44].contains r))] w fun e w' => e = .returned (.string (bs (trimP (cutB [44].contains r)))) ∧ Below w.heap.size w w' := fun w => by
        have := trim_any (bs (cutB [44].contains r)) w (by rw [bs_size]; have := cutB_len [44].contains r; omega)
        rwa [bs_data] at this
      have hC : Hid (∀ w, Calls Tryz.prog 60 #[.string (bs r), .string { data := #[44] }] w fun e w' => e = .returned (.tuple #[.string (bs (cutB [44].contains r)), .string (bs (cutR [44].contains r)), .bool (cutH [44].contains r)]) ∧ Below w.heap.size w w') := hC
      have hL := cutR_len [44].contains r
      have hdl : d.length ≤ 1000000 := by omega
      have hst : operandsP r = trimP (cutB [44].contains r) :: (if cutH [44].contains r then operandsP (cutR [44].contains r) else []) := by
        cases h : cutH [44].contains r
        · obtain ⟨e1, e2⟩ := parts_miss 44 r h
          simp [operandsP, e1, e2]
        · simp [operandsP, parts_hit 44 r h]
      generalize cutH [44].contains r = H at hC hst hL
      generalize cutR [44].contains r = R at hC hst hL
      generalize trimP (cutB [44].contains r) = A at hT hst
      clear hmt hmf
      go_wp2_with (first | (go_at_call 60; refine (hC.out _).mono ?_; rintro e w1 ⟨rfl, hb1⟩) | (go_at_call 61; refine (hT _).mono ?_; rintro e w2 ⟨rfl, hb2⟩) | (at_builtin; refine wpList_append_own _ rfl _ _ 31 rfl w.heap.size 9 i0 (.string ⟨#[]⟩) 1 16 Tryz.underlying31 hi0 hz0 hz1 hz2 rfl (by decide) _ d.length _ rfl ((own_call (own_call hown hb1) hb2).alloc _) ⟨w2.heap.size, 0, none⟩ 1 1 [.string (bs A)] rfl rfl (cell_new1 _ _ _) (by intro u hu; simp at hu; subst hu; rfl) (by unfold maxLen; omega) (by omega) (by have := hb1.size; have := hb2.size; have := hbw.size; simp; omega) ?_; intro v3 w3 hown3 hgrow3 hnil3))
      have q1 := hb1.size
      have q2 := hb2.size
      have q3 := hbw.size
      have hX := own_call (own_call hown hb1) hb2
      go_roundg g'
      case measure => omega
      case rel =>
        refine ⟨R, H, d ++ [A], rfl, rfl, by rw [List.length_append, strs_snoc]; exact hown3, ?_, ?_, fun h => ?_, fun h => ?_⟩
        · exact (((hbw.trans (hb1.mono q3)).trans (hb2.mono (by omega))).alloc (by omega) _).grown hgrow3 (by simp; omega) (fun j hj => (own_lt hX _ hj).1)
        · simp; omega
        · subst h
          have := hL.2 rfl
          refine ⟨by simp; omega, by omega, ?_⟩
          rw [← g3, hst]; simp
        · subst h
          rw [← g3, hst]; simp
end Go.Proofs.YtkidfnhgknkpiaaGreatDoor
