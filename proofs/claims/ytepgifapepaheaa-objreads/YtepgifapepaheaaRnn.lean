/-
  Layer 7: names, no two the same: a map of those that were there.
-/
import Derived.Test.YtepgifapepaheaaMps
import Derived.Test.YtepgifapepaheaaRgs
namespace Go.Proofs.Ytepgifapepaheaa
set_option linter.unusedVariables false
set_option linter.unusedSimpArgs false
open Go.ChangeShapes Go.WideShapes Go.ChangeAt Go.RowKit

def unit_ : Value := .agg #[]
/-- The names that were there. -/
def seenL (N : List Bs) : List (Bs × Value) := N.map fun n => (n, unit_)
theorem look_seen (N : List Bs) (k : Bs) : look (seenL N) k = if N.contains k then some unit_ else none := by
  induction N with
  | nil => rfl
  | cons x r ih =>
    rw [seenL, List.map_cons, look_cons]
    by_cases h : x = k
    · subst h; simp
    · rw [if_neg h]
      have : (k == x) = false := by simpa using fun e => h e.symm
      rw [List.contains_cons, this, Bool.false_or]
      exact ih
structure NmAt (X : World) (k m : Nat) (N : List Bs) : Prop where
  cell : X.cell? ⟨k, 0, none⟩ = some (.map (some m))
  mp : MapIs X m (seenL N)
  lt : k < X.heap.size
  ne : k ≠ m
  few : N.length ≤ 1000
theorem NmAt.below {X Y : World} {k m : Nat} {N : List Bs} (h : NmAt X k m N) (hb : Below X.heap.size X Y) : NmAt Y k m N := ⟨(hb.cell (p := ⟨k, 0, none⟩) h.lt).trans h.cell, h.mp.call hb, Nat.lt_of_lt_of_le h.lt hb.size, h.ne, h.few⟩
theorem NmAt.tq {X Y : World} {P : Nat → Prop} {k m : Nat} {N : List Bs} (h : NmAt X k m N) (t : Tq X Y P) (hk : ¬ P k) (hm : ¬ P m) : NmAt Y k m N := ⟨(World.cell?_of_block (a := ⟨k, 0, none⟩) (t.blk k h.lt hk)).trans h.cell, h.mp.block (t.blk m h.mp.lt hm), Nat.lt_of_lt_of_le h.lt t.size, h.ne, h.few⟩
/-- Is it a name, and none that was there? -/
def freshB (N : List Bs) (s : ByteArray) : Bool := !N.contains s.data.toList && nameB s
def addN (N : List Bs) (s : ByteArray) : List Bs := if freshB N s then s.data.toList :: N else N
def nmF (k : Nat) : Value := .func (.func 76) #[] #[.pointer (some ⟨k, 0, none⟩)]
theorem zeroU (X : World) : (zeroValue 105).run Try.prog X = .ok unit_ X := by kernel_rfl
set_option maxHeartbeats 2000000 in
theorem newNames_any (w : World) : Calls Try.prog 55 #[] w fun e w' => ∃ k m, e = .returned (.func (.func 76) #[] #[.pointer (some ⟨k, 0, none⟩)]) ∧ NmAt w' k m [] ∧ w.heap.size ≤ k ∧ w.heap.size ≤ m ∧ Below w.heap.size w w' := by
  have hmm := @run_makeMap Try.prog
  go_enter Try.func55, Try.ntmps55
  go_wp2
  go_ret
  have hb := blk_new (w.alloc (.map #[] 0)) (.cells #[.map (some w.heap.size)] 104)
  rw [show (w.alloc (.map #[] 0)).heap.size = w.heap.size + 1 by simp] at hb
  exact ⟨w.heap.size + 1, w.heap.size, rfl, ⟨blk_cell hb 0, (MapIs.made w).alloc _, by simp, by omega, Nat.zero_le _⟩, by omega, Nat.le_refl _, by go_grown⟩
set_option maxHeartbeats 2000000 in
theorem fresh_any (w : World) (k m : Nat) (N : List Bs) (h : NmAt w k m N) (s : ByteArray) (hs : s.size ≤ 140737488355328) (hN : N.length ≤ 500) :
    Calls Try.prog 76 #[.string s, .pointer (some ⟨k, 0, none⟩)] w fun e w' => e = .returned (.bool (freshB N s)) ∧ NmAt w' k m (addN N s) ∧ Tq w w' (fun x => x = m) := by
  have I : Hid (∀ X, Calls Try.prog 77 #[.string s] X fun e w' => e = .returned (.bool (nameB s)) ∧ w' = X) := fun X => isName_any s X hs
  have hsz : s.size ≤ maxLen := by unfold maxLen; omega
  have c := h.cell
  have H : Hid (NmAt w k m N) := h
  have hl := look_seen N s.data.toList
  clear h
  cases hc : N.contains s.data.toList
  · rw [hc] at hl
    have l1 : ((look (seenL N) s.data.toList).getD unit_) = .agg #[] := by rw [hl]; rfl
    have l2 : (look (seenL N) s.data.toList).isSome = false := by rw [hl]; rfl
    clear hl
    have c2 : (w.alloc (.cells #[] 105)).cell? ⟨k, 0, none⟩ = some (.map (some m)) := (World.cell?_of_block (a := ⟨k, 0, none⟩) (Below.heap_alloc _ _ _ H.out.lt)).trans c
    cases hn : nameB s
    · have hF : freshB N s = false := by unfold freshB; rw [hn, Bool.and_false]
      have hA : addN N s = N := by unfold addN; rw [hF]; rfl
      rw [hF, hA]
      go_enter Try.func76, Try.ntmps76
      go_wp2_with (first
        | (at_lookup; refine wpList_look rfl _ _ 104 rfl 105 Try.underlying104 (zeroU _) m _ rfl H.out.mp s rfl hsz (.agg #[]) false l1 l2 ?_)
        | (go_at_call 77; refine (I.out _).mono ?_; rintro e w1 ⟨rfl, hw⟩; rw [hw, hn]; clear hw))
      go_ret
      exact ⟨rfl, H.out.below (by go_grown), Tq.below (by go_grown)⟩
    · have hF : freshB N s = true := by unfold freshB; rw [hn, hc]; rfl
      have hA : addN N s = s.data.toList :: N := by unfold addN; rw [hF]; rfl
      rw [hF, hA]
      have hlen : (seenL N).length < 100000 := by simp [seenL]; omega
      go_enter Try.func76, Try.ntmps76
      go_wp2_with (first
        | (at_lookup; refine wpList_look rfl _ _ 104 rfl 105 Try.underlying104 (zeroU _) m _ rfl H.out.mp s rfl hsz (.agg #[]) false l1 l2 ?_)
        | (at_mapUpdate; refine wpList_put rfl _ _ _ 104 rfl 105 Try.underlying104 m _ rfl (H.out.mp.alloc _) hlen s (.agg #[]) rfl rfl hsz ?_; intro w4 hM hgr)
        | (go_at_call 77; refine (I.out _).mono ?_; rintro e w1 ⟨rfl, hw⟩; rw [hw, hn]; clear hw))
      go_ret
      have t : Tq w w4 (fun x => x = m) := (Tq.below ((Below.refl _ _).alloc (Nat.le_refl _) _)).trans (Tq.gb hgr fun k e => by injection e with e; exact e.symm)
      exact ⟨rfl, ⟨(World.cell?_of_block (a := ⟨k, 0, none⟩) (t.blk k H.out.lt H.out.ne)).trans c, hM, Nat.lt_of_lt_of_le H.out.lt t.size, H.out.ne, by simp; omega⟩, t⟩
  · rw [hc] at hl
    have l1 : ((look (seenL N) s.data.toList).getD unit_) = .agg #[] := by rw [hl]; rfl
    have l2 : (look (seenL N) s.data.toList).isSome = true := by rw [hl]; rfl
    clear hl
    have hF : freshB N s = false := by unfold freshB; rw [hc]; rfl
    have hA : addN N s = N := by unfold addN; rw [hF]; rfl
    rw [hF, hA]
    go_enter Try.func76, Try.ntmps76
    go_wp2_with (at_lookup; refine wpList_look rfl _ _ 104 rfl 105 Try.underlying104 (zeroU _) m _ rfl H.out.mp s rfl hsz (.agg #[]) true l1 l2 ?_)
    go_ret
    exact ⟨rfl, H.out.below (by go_grown), Tq.below (by go_grown)⟩
end Go.Proofs.Ytepgifapepaheaa
