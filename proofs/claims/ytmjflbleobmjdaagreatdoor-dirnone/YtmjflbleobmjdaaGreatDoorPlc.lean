/-
  Layer 17, plain: the entries of leaves; what a disk says, as the program reads it.
-/
import Derived.Test.YtmjflbleobmjdaaGreatDoorPlb
import Derived.Test.YtmjflbleobmjdaaGreatDoorNam
import Derived.Lib.IndexMore
import Derived.Lib.TrimByte
namespace Go.Proofs.YtmjflbleobmjdaaGreatDoor
set_option linter.unusedVariables false
set_option linter.unusedSimpArgs false
open Go.ChangeShapes Go.WideShapes Go.ChangeAt Go.RowKit

/-- Is one name below another one? -/
def lessS (a b : ByteArray) : Bool := Op.bytesLess a.toList b.toList
/-- An entry: a name, the header's sector, a length. -/
structure En where
  nm : ByteArray
  hd : Int
  ln : Int
/-- The 24 bytes of the k-th entry's name. -/
def nameL24 (f : Nat → Int) (k : Nat) : List UInt8 := (List.range 24).map fun j => UInt8.ofNat (f (8 + 32 * k + j)).toNat
def beforeN (l : List UInt8) : List UInt8 := l.takeWhile (· != 0)
/-- The k-th entry of a leaf. -/
def entP (f : Nat → Int) (k : Nat) : Option En :=
  if (((nameL24 f k).drop (beforeN (nameL24 f k)).length).all (· == 0) && nameB ⟨(beforeN (nameL24 f k)).toArray⟩) = true
  then some ⟨⟨(beforeN (nameL24 f k)).toArray⟩, wdF f (8 + 8 * k), wdF f (9 + 8 * k)⟩ else none
/-! ### Cut at a nought, and Trim. -/
theorem index_no : ∀ (l : List UInt8), (∀ c ∈ l, c ≠ 0) → Lib.index l [0] = -1
  | [], _ => rfl
  | c :: r, h => by
    unfold Lib.index
    have hc := h c (by simp)
    rw [if_neg (by simp; exact fun e => hc e.symm), index_no r fun x hx => h x (by simp [hx])]; rfl
theorem index_at : ∀ (a r : List UInt8), (∀ c ∈ a, c ≠ 0) → Lib.index (a ++ 0 :: r) [0] = a.length
  | [], r, _ => by
    show Lib.index (0 :: r) [0] = 0
    unfold Lib.index
    rw [if_pos (by simp)]
  | c :: a, r, h => by
    have hc := h c (by simp)
    rw [List.cons_append]
    unfold Lib.index
    have ih := index_at a r fun x hx => h x (by simp [hx])
    rw [if_neg (by simp; exact fun e => hc e.symm), ih, if_neg (by simp)]
    simp
theorem before_ne (l : List UInt8) : ∀ c ∈ beforeN l, c ≠ 0 := by
  unfold beforeN
  induction l with
  | nil => intro c h; cases h
  | cons x r ih =>
    intro c hc
    rw [List.takeWhile_cons] at hc
    by_cases h : (x != 0) = true
    · rw [if_pos h] at hc
      rcases List.mem_cons.1 hc with rfl | h2
      · simpa using h
      · exact ih c h2
    · rw [if_neg h] at hc; cases hc
theorem split_at (l : List UInt8) : l = beforeN l ++ l.drop (beforeN l).length := by
  conv => lhs; rw [← List.takeWhile_append_dropWhile (p := (· != 0)) (l := l)]
  congr 1
  unfold beforeN
  conv => rhs; arg 2; rw [← List.takeWhile_append_dropWhile (p := (· != 0)) (l := l)]
  rw [List.drop_left]
theorem rest_head (l : List UInt8) : l.drop (beforeN l).length = [] ∨ ∃ r, l.drop (beforeN l).length = 0 :: r := by
  have e : l.drop (beforeN l).length = l.dropWhile (· != 0) := by
    unfold beforeN
    conv => lhs; arg 2; rw [← List.takeWhile_append_dropWhile (p := (· != 0)) (l := l)]
    rw [List.drop_left]
  rw [e]
  cases h : l.dropWhile (· != 0) with
  | nil => exact .inl rfl
  | cons c r =>
    right
    have := List.head_dropWhile_not (· != (0 : UInt8)) (l := l) (by rw [h]; simp)
    simp only [h, List.head_cons] at this
    have hc : c = 0 := by simpa using this
    exact ⟨r, by rw [hc]⟩
theorem cut_no (l : List UInt8) (h : l.drop (beforeN l).length = []) : Lib.cut l [0] = (beforeN l, [], false) := by
  have e : l = beforeN l := by have := split_at l; rw [h, List.append_nil] at this; exact this
  unfold Lib.cut
  rw [index_no l (by rw [e]; exact before_ne l), if_neg (by decide)]
  exact Prod.ext e rfl
theorem cut_yes (l r : List UInt8) (h : l.drop (beforeN l).length = 0 :: r) : Lib.cut l [0] = (beforeN l, r, true) := by
  have e : l = beforeN l ++ 0 :: r := by have := split_at l; rw [h] at this; exact this
  have hi : Lib.index l [0] = (beforeN l).length := by
    conv => lhs; rw [e]
    exact index_at _ _ (before_ne l)
  unfold Lib.cut
  rw [hi, if_pos (by omega)]
  have e1 : l.take (beforeN l).length = beforeN l := by
    conv => lhs; arg 2; rw [e]
    exact List.take_left
  have e2 : l.drop ((beforeN l).length + 1) = r := by
    rw [← List.drop_drop, h]; rfl
  simp only [Int.toNat_natCast, List.length_cons, List.length_nil, Nat.zero_add]
  rw [e1, e2]
theorem dropW_all {l : List UInt8} : l.dropWhile (· == 0) = [] ↔ l.all (· == 0) = true := by
  induction l with
  | nil => simp
  | cons x r ih =>
    rw [List.dropWhile_cons, List.all_cons]
    by_cases h : (x == 0) = true
    · rw [if_pos h, ih, h, Bool.true_and]
    · rw [if_neg h]
      have h2 : (x == 0) = false := by simpa using h
      rw [h2, Bool.false_and]
      simp
theorem trim_nil (l : List UInt8) : Lib.trimB l 0 = [] ↔ l.all (· == 0) = true := by
  unfold Lib.trimB Lib.trimLeftB Lib.trimRightB
  constructor
  · intro h
    rw [dropW_all] at h
    have h2 : (l.reverse.dropWhile (· == 0)).all (· == 0) = true := by rwa [List.all_reverse] at h
    have h3 : l.reverse.dropWhile (· == 0) = [] := by
      cases hd : l.reverse.dropWhile (· == 0) with
      | nil => rfl
      | cons c r =>
        have := List.head_dropWhile_not (· == (0 : UInt8)) (l := l.reverse) (by rw [hd]; simp)
        simp only [hd, List.head_cons] at this
        rw [hd, List.all_cons, this] at h2
        cases h2
    rw [dropW_all, List.all_reverse] at h3
    exact h3
  · intro h
    have h3 : l.reverse.dropWhile (· == 0) = [] := by rw [dropW_all, List.all_reverse]; exact h
    rw [h3]; rfl
/-! ### A directory's state. -/
structure Fi where
  nm : ByteArray
  hd : Int
  ln : Int
  sec : List Int
structure Ds where
  n : Nat
  files : List Fi
  leaves : List Int
  use : Nat → Nat
/-- The yields of the entries of leaves, up to the first thing that may not be. -/
def cutN {α : Type} : List (Option α) → List (Option α)
  | [] => []
  | none :: _ => [none]
  | some x :: r => some x :: cutN r
def itemsP (n : Nat) (S : Nat → Nat → Int) : List Int → List (Option En)
  | [] => []
  | leaf :: r => match markedP n S leaf leafM 31 with
    | none => [none]
    | some m => if m = 0 ∨ (m ≠ 31 ∧ r ≠ []) then [none] else (List.range m.toNat).map (entP (S leaf.toNat)) ++ itemsP n S r
/-- Does a name not stand above the last one? -/
def lowB (fs : List Fi) (nm : ByteArray) : Bool := match fs.getLast? with
  | some l => !(lessS l.nm nm)
  | none => false
/-- One more file. -/
def addF (n : Nat) (S : Nat → Nat → Int) (fs : List Fi) (u : Nat → Nat) (e : En) : Option (List Fi × (Nat → Nat)) :=
  if fs.length = 200 then none
  else if lowB fs e.nm = true then none
  else match headP n S e.hd e.ln with
    | none => none
    | some secs => (takeAll n 0 1 u secs).map fun v => (fs ++ [⟨e.nm, e.hd, e.ln, secs⟩], v)
def foldP (n : Nat) (S : Nat → Nat → Int) : List Fi → (Nat → Nat) → List (Option En) → Option (List Fi × (Nat → Nat))
  | fs, u, [] => some (fs, u)
  | fs, u, none :: _ => none
  | fs, u, some e :: r => match addF n S fs u e with
    | none => none
    | some q => foldP n S q.1 q.2 r
/-- What a disk says. -/
def openP (n : Nat) (S : Nat → Nat → Int) : Option Ds := match rootP n S with
  | none => none
  | some ls => match takeAll n 0 1 (fun _ => 0) [0] with
    | none => none
    | some u0 => match takeAll n 0 1 u0 ls with
      | none => none
      | some u => match foldP n S [] u (itemsP n S ls) with
        | none => none
        | some q => some ⟨n, q.1, ls, q.2⟩
theorem fold_cut (n : Nat) (S : Nat → Nat → Int) : ∀ (l : List (Option En)) (fs : List Fi) (u : Nat → Nat), foldP n S fs u (cutN l) = foldP n S fs u l
  | [], _, _ => rfl
  | none :: r, _, _ => rfl
  | some e :: r, fs, u => by
    rw [cutN, foldP, foldP]
    cases addF n S fs u e with
    | none => rfl
    | some q => exact fold_cut n S r q.1 q.2
end Go.Proofs.YtmjflbleobmjdaaGreatDoor
