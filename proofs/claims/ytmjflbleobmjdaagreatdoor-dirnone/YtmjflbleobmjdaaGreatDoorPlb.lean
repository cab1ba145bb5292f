/-
  Layer 17, plain: words in sectors; what a root, a leaf, a header says.
-/
import Derived.Test.YtmjflbleobmjdaaGreatDoorRcc
namespace Go.Proofs.YtmjflbleobmjdaaGreatDoor
set_option linter.unusedVariables false
set_option linter.unusedSimpArgs false
open Go.ChangeShapes Go.WideShapes Go.ChangeAt Go.RowKit

def rootM : Int := 827475011
def leafM : Int := 827081795
def headM : Int := 826820163
/-- The i-th word of a sector. -/
def wdF (f : Nat → Int) (i : Nat) : Int := wordAt f ((4 * i : Nat) : Int)
theorem wdF_bd {f : Nat → Int} (h : ByteF f) {i : Nat} (hi : 4 * i + 4 ≤ 1024) : 0 ≤ wdF f i ∧ wdF f i ≤ 4294967295 := by
  have := tgv_bd8 (fun j => f (((4 * i : Nat) : Int).toNat + j)) 4 (fun j hj => h _ (by simp; omega)) 4 (Nat.le_refl _)
  unfold wdF wordAt
  constructor
  · exact this.1
  · have h2 := this.2; simp at h2 ⊢; omega
/-- The number behind a sector's mark. -/
def markedP (n : Nat) (S : Nat → Nat → Int) (s mark most : Int) : Option Int :=
  if 0 ≤ s ∧ s < n ∧ wdF (S s.toNat) 0 = mark ∧ wdF (S s.toNat) 1 ≤ most then some (wdF (S s.toNat) 1) else none
/-- So many words of a sector, from the third on. -/
def wordsP (f : Nat → Int) (many : Nat) : List Int := (List.range many).map fun i => wdF f (2 + i)
def rootP (n : Nat) (S : Nat → Nat → Int) : Option (List Int) := (markedP n S 0 rootM 7).map fun m => wordsP (S 0) m.toNat
def pieces (m : Int) : Nat := ((m + 1023) / 1024).toNat
/-- The sectors that a header names, it first. -/
def headP (n : Nat) (S : Nat → Nat → Int) (h len : Int) : Option (List Int) := match markedP n S h headM 256000 with
  | some m => if m = len then some (h :: wordsP (S h.toNat) (pieces m)) else none
  | none => none
theorem wordsP_len (f : Nat → Int) (k : Nat) : (wordsP f k).length = k := by simp [wordsP]
theorem pieces_le {m : Int} (h0 : 0 ≤ m) (h : m ≤ 256000) : pieces m ≤ 250 := by unfold pieces; omega
theorem marked_le {n : Nat} {S : Nat → Nat → Int} {s mark most m : Int} (h : markedP n S s mark most = some m) : 0 ≤ s ∧ s < n ∧ wdF (S s.toNat) 0 = mark ∧ m = wdF (S s.toNat) 1 ∧ m ≤ most := by
  unfold markedP at h
  split at h
  · rename_i hc
    injection h with h
    exact ⟨hc.1, hc.2.1, hc.2.2.1, h.symm, h ▸ hc.2.2.2⟩
  · cases h
/-! ### What is written: bytes, noughts behind. -/
def secF (l : List Int) : Nat → Int := fun i => l.getD i 0
def wdL (v : Int) : List Int := [byteOf v 0, byteOf v 1, byteOf v 2, byteOf v 3]
theorem wdL_len (v : Int) : (wdL v).length = 4 := rfl
theorem wdL_at (v : Int) {k : Nat} (h : k < 4) : (wdL v).getD k 0 = byteOf v k := by
  have : k = 0 ∨ k = 1 ∨ k = 2 ∨ k = 3 := by omega
  rcases this with rfl | rfl | rfl | rfl <;> rfl
theorem getD_app (a b : List Int) (i : Nat) : (a ++ b).getD i 0 = if i < a.length then a.getD i 0 else b.getD (i - a.length) 0 := by
  by_cases h : i < a.length
  · rw [if_pos h]; simp only [List.getD_eq_getElem?_getD]; rw [List.getElem?_append_left h]
  · rw [if_neg h]; simp only [List.getD_eq_getElem?_getD]; rw [List.getElem?_append_right (by omega)]
theorem getD_past (a : List Int) {i : Nat} (h : a.length ≤ i) : a.getD i 0 = 0 := by
  rw [List.getD_eq_getElem?_getD, List.getElem?_eq_none h]; rfl
theorem secF_zeros (l : List Int) (k : Nat) : secF (l ++ List.replicate k 0) = secF l := by
  funext i
  unfold secF
  rw [getD_app]
  by_cases h : i < l.length
  · rw [if_pos h]
  · rw [if_neg h, getD_past l (by omega)]
    rw [List.getD_eq_getElem?_getD, List.getElem?_replicate]
    split <;> rfl
theorem secF_put (l : List Int) (p : Nat) (hp : l.length ≤ p) (h : p + 4 ≤ 1024) (v : Int) : putL 1024 (secF l) (p : Int) v = secF (l ++ List.replicate (p - l.length) 0 ++ wdL v) := by
  have hf : fits 1024 (p : Int) = true := by unfold fits; exact decide_eq_true (by omega)
  funext i
  unfold putL
  rw [if_pos hf, Int.toNat_natCast]
  unfold partL
  have e : (l ++ List.replicate (p - l.length) 0).length = p := by simp; omega
  by_cases hc : p ≤ i ∧ i < p + 4
  · rw [if_pos hc]
    show _ = (l ++ List.replicate (p - l.length) 0 ++ wdL v).getD i 0
    rw [getD_app, e, if_neg (by omega), wdL_at v (by omega)]
  · rw [if_neg hc, ← secF_zeros l (p - l.length)]
    show (l ++ List.replicate (p - l.length) 0).getD i 0 = (l ++ List.replicate (p - l.length) 0 ++ wdL v).getD i 0
    rw [getD_app (l ++ List.replicate (p - l.length) 0), e]
    by_cases h2 : i < p
    · rw [if_pos h2]
    · rw [if_neg h2, getD_past _ (by omega), getD_past _ (by rw [wdL_len]; omega)]
def markL (mark : Int) (n : Nat) : List Int := wdL mark ++ wdL (n : Int)
def wordsL : List Int → List Int
  | [] => []
  | x :: r => wdL x ++ wordsL r
theorem wordsL_app : ∀ (a b : List Int), wordsL (a ++ b) = wordsL a ++ wordsL b
  | [], b => rfl
  | x :: r, b => by rw [List.cons_append, wordsL, wordsL, wordsL_app r b, List.append_assoc]
theorem wordsL_len : ∀ (a : List Int), (wordsL a).length = 4 * a.length
  | [] => rfl
  | x :: r => by rw [wordsL, List.length_append, wdL_len, wordsL_len r, List.length_cons]; omega
/-- A root's bytes. -/
def rootL (ls : List Int) : List Int := markL rootM ls.length ++ wordsL ls
theorem byteOf_byte (v : Int) (k : Nat) : 0 ≤ byteOf v k ∧ byteOf v k ≤ 255 := byteOf_bd v k
theorem wdL_byte (v : Int) : ∀ x ∈ wdL v, 0 ≤ x ∧ x ≤ 255 := by
  intro x hx
  simp only [wdL, List.mem_cons, List.not_mem_nil, or_false] at hx
  rcases hx with rfl | rfl | rfl | rfl <;> exact byteOf_byte _ _
theorem secF_byte {l : List Int} (h : ∀ x ∈ l, 0 ≤ x ∧ x ≤ 255) : ByteF (secF l) := by
  intro i _
  unfold secF
  rw [List.getD_eq_getElem?_getD]
  cases hi : l[i]? with
  | none => exact ⟨Int.le_refl _, show (0 : Int) ≤ 255 by decide⟩
  | some x => exact h x (List.mem_of_getElem? hi)
theorem wordsL_byte : ∀ (a : List Int), ∀ x ∈ wordsL a, 0 ≤ x ∧ x ≤ 255
  | [], x, h => by cases h
  | y :: r, x, h => by
    rw [wordsL] at h
    rcases List.mem_append.1 h with h | h
    · exact wdL_byte _ x h
    · exact wordsL_byte r x h
theorem rootL_byte (ls : List Int) : ByteF (secF (rootL ls)) := secF_byte fun x hx => by
  unfold rootL markL at hx
  simp only [List.mem_append] at hx
  rcases hx with (h | h) | h
  · exact wdL_byte _ x h
  · exact wdL_byte _ x h
  · exact wordsL_byte _ x h
end Go.Proofs.YtmjflbleobmjdaaGreatDoor
