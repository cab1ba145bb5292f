/-
  Plain functions on texts (rows of bytes) of layer 8: blanks, remarks, words, numbers, strings, signs, tokens. Nothing of the program is in this text.
-/
import Derived.Lib.Strings
namespace Go.Proofs.YtllhcjmabhempaaDoor
set_option linter.unusedVariables false
set_option linter.unusedSimpArgs false
abbrev Bs := List UInt8
def bs (l : Bs) : ByteArray := ⟨l.toArray⟩
theorem bs_data (l : Bs) : (bs l).data.toList = l := by simp [bs]
theorem bs_size (l : Bs) : (bs l).size = l.length := by simp [bs, ByteArray.size]
theorem bs_of (s : ByteArray) : bs s.data.toList = s := by cases s; simp [bs]
theorem bs_inj {a b : Bs} (h : bs a = bs b) : a = b := by rw [← bs_data a, h, bs_data]
theorem bs_app (a b : Bs) : bs a ++ bs b = bs (a ++ b) := by simp [bs, ByteArray.ext_iff]
theorem bs_get (l : Bs) (j : Nat) (h : j < (bs l).size) (h' : j < l.length) : (bs l)[j]'h = l[j] := by simp [bs, ByteArray.getElem_eq_getElem_data]
theorem bs_take (l : Bs) (k : Nat) : (bs l).extract 0 k = bs (l.take k) := by
  rw [← bs_of ((bs l).extract 0 k), ByteArray.data_extract, Array.toList_extract, bs_data]; simp
theorem bs_drop (l : Bs) (k : Nat) : (bs l).extract k (bs l).size = bs (l.drop k) := by
  rw [← bs_of ((bs l).extract k (bs l).size), ByteArray.data_extract, Array.toList_extract, bs_data]
  congr 1
  rw [List.extract_eq_take_drop, List.take_of_length_le]
  rw [List.length_drop, bs_size]; omega
theorem bs_mid (l : Bs) (k j : Nat) : (bs l).extract k j = bs ((l.drop k).take (j - k)) := by
  rw [← bs_of ((bs l).extract k j), ByteArray.data_extract, Array.toList_extract, bs_data, List.extract_eq_take_drop]

def blkI (r : Int) : Bool := r == 32 || r == 9 || r == 10 || r == 13
def ltrI (r : Int) : Bool := decide (97 ≤ r) && decide (r ≤ 122) || decide (65 ≤ r) && decide (r ≤ 90)
def digI (r : Int) : Bool := decide (48 ≤ r) && decide (r ≤ 57)
def blk (c : UInt8) : Bool := blkI c.toNat
def lett (c : UInt8) : Bool := ltrI c.toNat
def dig (c : UInt8) : Bool := digI c.toNat
def wch (c : UInt8) : Bool := lett c || dig c
def wordL (l : Bs) : Bs := l.takeWhile wch
theorem blkI_high {r : Int} (h : 128 ≤ r) : blkI r = false := by simp [blkI]; omega
theorem ltrI_high {r : Int} (h : 128 ≤ r) : ltrI r = false := by simp [ltrI]; omega
theorem digI_high {r : Int} (h : 128 ≤ r) : digI r = false := by simp [digI]; omega
theorem blk_high {c : UInt8} (h : 128 ≤ c.toNat) : blk c = false := blkI_high (by omega)
theorem wch_high {c : UInt8} (h : 128 ≤ c.toNat) : wch c = false := by simp [wch, lett, dig, ltrI_high (show (128 : Int) ≤ c.toNat by omega), digI_high (show (128 : Int) ≤ c.toNat by omega)]

/-- A text begins with an opening of a remark. -/
def opens : Bs → Bool
  | a :: b :: _ => a == 40 && b == 42
  | _ => false
theorem opens_prefix (l : Bs) : Lib.hasPrefix l [40, 42] = opens l := by
  match l with
  | [] => rfl
  | [a] => simp [Lib.hasPrefix, opens, List.isPrefixOf]
  | a :: b :: r => simp [Lib.hasPrefix, opens, List.isPrefixOf, BEq.comm]
/-- Within d remarks: how many bytes up to behind the end of the outermost. -/
def remP : Nat → Bs → Option Nat
  | _, [] => none
  | _, [_] => none
  | d, a :: b :: r =>
    if a = 40 ∧ b = 42 then (remP (d + 1) r).map (· + 2)
    else if a = 42 ∧ b = 41 then (if d ≤ 1 then some 2 else (remP (d - 1) r).map (· + 2))
    else (remP d (b :: r)).map (· + 1)
theorem remP_le : ∀ (d : Nat) (l : Bs) (n : Nat), remP d l = some n → n ≤ l.length ∧ 2 ≤ n
  | _, [], _, h => by simp [remP] at h
  | _, [_], _, h => by simp [remP] at h
  | d, a :: b :: r, n, h => by
    rw [remP] at h
    split at h
    · obtain ⟨m, hm, rfl⟩ := Option.map_eq_some_iff.1 h
      have := remP_le _ _ _ hm
      simp only [List.length_cons]; omega
    · split at h
      · split at h
        · simp only [Option.some.injEq] at h; simp only [List.length_cons]; omega
        · obtain ⟨m, hm, rfl⟩ := Option.map_eq_some_iff.1 h
          have := remP_le _ _ _ hm
          simp only [List.length_cons]; omega
      · obtain ⟨m, hm, rfl⟩ := Option.map_eq_some_iff.1 h
        have := remP_le _ _ _ hm
        simp only [List.length_cons] at this ⊢; omega
/-- How many bytes the remark has with which a text begins; 0: none, or without an end. -/
def remN (l : Bs) : Nat := if opens l then (remP 0 l).getD 0 else 0
theorem remN_le (l : Bs) : remN l ≤ l.length := by
  unfold remN; split
  · cases h : remP 0 l with
    | none => simp
    | some n => simpa using (remP_le _ _ _ h).1
  · omega
/-- How many bytes of blanks and remarks a text begins with. -/
def skipF : Nat → Bs → Nat
  | 0, _ => 0
  | _ + 1, [] => 0
  | f + 1, c :: r => if blk c then 1 + skipF f r else if remN (c :: r) = 0 then 0 else remN (c :: r) + skipF f ((c :: r).drop (remN (c :: r)))
theorem skipF_fuel : ∀ (f g : Nat) (l : Bs), l.length ≤ f → l.length ≤ g → skipF f l = skipF g l
  | 0, 0, _, _, _ => rfl
  | 0, g + 1, l, h, _ => by
    have : l = [] := List.eq_nil_of_length_eq_zero (by omega)
    subst this; rfl
  | f + 1, 0, l, _, h => by
    have : l = [] := List.eq_nil_of_length_eq_zero (by omega)
    subst this; rfl
  | f + 1, g + 1, [], _, _ => rfl
  | f + 1, g + 1, c :: r, hf, hg => by
    simp only [List.length_cons] at hf hg
    rw [skipF, skipF, skipF_fuel f g r (by omega) (by omega)]
    split
    · rfl
    · split
      · rfl
      · rw [skipF_fuel f g _ (by rw [List.length_drop]; simp only [List.length_cons]; omega) (by rw [List.length_drop]; simp only [List.length_cons]; omega)]
def skip (l : Bs) : Nat := skipF l.length l
theorem skip_nil : skip [] = 0 := rfl
theorem skip_blk {c : UInt8} {r : Bs} (h : blk c = true) : skip (c :: r) = 1 + skip r := by
  simp only [skip, List.length_cons, skipF, h, if_true]
theorem skip_rem {l : Bs} (h : remN l ≠ 0) : skip l = remN l + skip (l.drop (remN l)) := by
  cases l with
  | nil => exact absurd rfl h
  | cons c r =>
    have ho : opens (c :: r) = true := by unfold remN at h; split at h <;> simp_all
    have hb : blk c = false := by
      cases r with
      | nil => simp [opens] at ho
      | cons b r =>
        simp only [opens, Bool.and_eq_true, beq_iff_eq] at ho
        rw [ho.1]; decide
    have hl := remN_le (c :: r)
    unfold skip
    rw [List.length_cons, skipF]
    simp only [hb, Bool.false_eq_true, if_false, h]
    congr 1
    exact skipF_fuel _ _ _ (by rw [List.length_drop]; simp only [List.length_cons]; omega) (by omega)
theorem skip_stop {c : UInt8} {r : Bs} (h : blk c = false) (hn : remN (c :: r) = 0) : skip (c :: r) = 0 := by
  simp [skip, skipF, h, hn]
theorem skip_tw (l : Bs) : skip l = (l.takeWhile blk).length + skip (l.drop (l.takeWhile blk).length) := by
  induction l with
  | nil => rfl
  | cons c r ih =>
    cases h : blk c
    · simp [h]
    · rw [skip_blk h, ih]; simp [h]; omega
theorem skip_zero {l : Bs} (h : (l.takeWhile blk).length = 0) (hn : remN l = 0) : skip l = 0 := by
  cases l with
  | nil => rfl
  | cons c r =>
    cases hb : blk c
    · exact skip_stop hb hn
    · simp [hb] at h
/-- By the length of a text: what holds of the empty one, and is handed up over a blank, a remark, and where neither stands. -/
theorem skip_ind {P : Bs → Prop} (h0 : P []) (hb : ∀ c r, blk c = true → P r → P (c :: r)) (hr : ∀ l, remN l ≠ 0 → P (l.drop (remN l)) → P l) (hs : ∀ c r, blk c = false → remN (c :: r) = 0 → P (c :: r)) : ∀ (n : Nat) (l : Bs), l.length ≤ n → P l
  | 0, l, h => by
    have : l = [] := List.eq_nil_of_length_eq_zero (by omega)
    subst this; exact h0
  | n + 1, [], _ => h0
  | n + 1, c :: r, h => by
    simp only [List.length_cons] at h
    cases hc : blk c
    · by_cases hm : remN (c :: r) = 0
      · exact hs c r hc hm
      · exact hr _ hm (skip_ind h0 hb hr hs n _ (by rw [List.length_drop]; simp only [List.length_cons]; omega))
    · exact hb c r hc (skip_ind h0 hb hr hs n r (by omega))
theorem skip_le (l : Bs) : skip l ≤ l.length := by
  refine skip_ind (P := fun l => skip l ≤ l.length) (by simp [skip_nil]) (fun c r hb ih => ?_) (fun l hr ih => ?_) (fun c r hb hn => ?_) l.length l (Nat.le_refl _)
  · rw [skip_blk hb]; simp only [List.length_cons]; omega
  · have := remN_le l
    rw [skip_rem hr]; rw [List.length_drop] at ih; omega
  · rw [skip_stop hb hn]; omega
/-- No blank and no remark stands behind those that were passed over. -/
theorem skip_rest (l : Bs) : ((l.drop (skip l)).takeWhile blk).length = 0 ∧ remN (l.drop (skip l)) = 0 := by
  refine skip_ind (P := fun l => ((l.drop (skip l)).takeWhile blk).length = 0 ∧ remN (l.drop (skip l)) = 0) (by simp [skip_nil]; rfl) (fun c r hb ih => ?_) (fun l hr ih => ?_) (fun c r hb hn => ?_) l.length l (Nat.le_refl _)
  · rw [skip_blk hb, Nat.add_comm]; exact ih
  · rw [skip_rem hr, ← List.drop_drop]; exact ih
  · rw [skip_stop hb hn]; exact ⟨by simp [hb], hn⟩

def keysL : List Bs := [[65, 82, 82, 65, 89], [66, 69, 71, 73, 78], [66, 89], [67, 79, 78, 83, 84], [68, 73, 86], [68, 79], [69, 76, 83, 69], [69, 76, 83, 73, 70], [69, 78, 68], [70, 65, 76, 83, 69], [70, 79, 82], [73, 70], [73, 77, 80, 79, 82, 84], [73, 78], [73, 83], [77, 79, 68], [77, 79, 68, 85, 76, 69], [78, 73, 76], [79, 70], [79, 82], [80, 79, 73, 78, 84, 69, 82], [80, 82, 79, 67, 69, 68, 85, 82, 69], [82, 69, 67, 79, 82, 68], [82, 69, 80, 69, 65, 84], [82, 69, 84, 85, 82, 78], [84, 72, 69, 78], [84, 79], [84, 82, 85, 69], [84, 89, 80, 69], [85, 78, 84, 73, 76], [86, 65, 82], [87, 72, 73, 76, 69]]
def signsL : List Bs := [[46, 46], [58, 61], [60, 61], [62, 61], [43], [45], [42], [47], [126], [38], [46], [44], [59], [124], [40], [41], [91], [93], [123], [125], [58], [94], [61], [35], [60], [62]]
def isKeyP (w : Bs) : Bool := keysL.contains w
def isNameP (s : Bs) : Bool := !s.isEmpty && decide (s.length ≤ 20) && lett (s.headD 0) && (wordL s == s) && !isKeyP s

def digV (r : Int) : Int := if digI r then r - 48 else if 65 ≤ r ∧ r ≤ 70 then r - 55 else 9223372036854775807
def valP (base most : Int) : Int → Bs → Option Int
  | n, [] => some n
  | n, c :: r => if base ≤ digV c.toNat then none else if most < n * base + digV c.toNat then none else valP base most (n * base + digV c.toNat) r
/-- What is read at a place: a token's kind, text and number, how many bytes it has; and an error (0: none). -/
structure Rd where
  k : Int
  t : Bs
  n : Int
  len : Nat
  e : Int
def Rd.bad (e : Int) : Rd := ⟨0, [], 0, 0, e⟩
def sgnd (n : Int) : Int := if 2147483648 ≤ n then n - 4294967296 else n
def numT (k : Int) (f : Int → Int) (len : Nat) : Option Int → Rd
  | some n => ⟨k, [], f n, len, 0⟩
  | none => .bad 82
def numP (w : Bs) : Rd :=
  if w.getLast? = some 72 then numT 3 sgnd w.length (valP 16 4294967295 0 w.dropLast)
  else if w.getLast? = some 88 then numT 4 id w.length (valP 16 255 0 w.dropLast)
  else numT 3 id w.length (valP 10 2147483647 0 w)
/-- The place of the quote that ends a string. -/
def quoP : Nat → Bs → Option Nat
  | _, [] => none
  | k, c :: r => if c = 34 then some k else if c.toNat < 32 ∨ 126 < c.toNat ∨ k = 200 then none else quoP (k + 1) r
def quoT (l : Bs) : Option Nat → Rd
  | some k => ⟨5, l.take k, 0, k + 2, 0⟩
  | none => .bad 83
def quotedP (l : Bs) : Rd := quoT l.tail (quoP 0 l.tail)
def signT : Option Bs → Rd
  | some s => ⟨6, s, 0, s.length, 0⟩
  | none => .bad 81
def signP (l : Bs) : Rd := signT (signsL.find? fun s => s.isPrefixOf l)
def nameP (w : Bs) : Rd := if isKeyP w then ⟨2, w, 0, w.length, 0⟩ else if isNameP w then ⟨1, w, 0, w.length, 0⟩ else .bad 84
def firstC (c : UInt8) (l : Bs) : Rd :=
  if opens l then .bad 85 else if lett c then nameP (wordL l) else if dig c then numP (wordL l) else if c = 34 then quotedP l else signP l
def firstP : Bs → Rd
  | [] => ⟨0, [], 0, 0, 0⟩
  | c :: r => firstC c (c :: r)
structure Tok where
  k : Int
  t : Bs
  n : Int
  p : Nat
/-- What is read of a text: its tokens; or a place and an error. -/
structure Al where
  ts : List Tok
  p : Nat
  e : Int
def Al.pre (d : List Tok) (a : Al) : Al := if a.e = 0 then ⟨d ++ a.ts, a.p, a.e⟩ else a
def goA : Nat → Nat → Bs → Al
  | 0, _, _ => ⟨[], 0, 0⟩
  | f + 1, p, l =>
    if (firstP (l.drop (skip l))).e ≠ 0 then ⟨[], p + skip l, (firstP (l.drop (skip l))).e⟩
    else if (firstP (l.drop (skip l))).k = 0 then ⟨[⟨0, [], 0, p + skip l⟩], 0, 0⟩
    else (goA f (p + skip l + (firstP (l.drop (skip l))).len) (l.drop (skip l + (firstP (l.drop (skip l))).len))).pre [⟨(firstP (l.drop (skip l))).k, (firstP (l.drop (skip l))).t, (firstP (l.drop (skip l))).n, p + skip l⟩]
def allP (l : Bs) : Al := if 16384 < l.length then ⟨[], 0, 80⟩ else goA (l.length + 1) 0 l
theorem pre_nil (a : Al) : a.pre [] = a := by cases a; simp [Al.pre]
theorem pre_pre (d e : List Tok) (a : Al) : (a.pre e).pre d = a.pre (d ++ e) := by
  unfold Al.pre; split <;> rename_i h <;> simp [h]

theorem wordL_len (l : Bs) : (wordL l).length ≤ l.length := (List.takeWhile_sublist _).length_le
theorem quoP_le : ∀ (k : Nat) (l : Bs) (n : Nat), quoP k l = some n → k ≤ n ∧ n < k + l.length
  | _, [], _, h => by simp [quoP] at h
  | k, c :: r, n, h => by
    rw [quoP] at h
    split at h
    · simp only [Option.some.injEq] at h; simp only [List.length_cons]; omega
    · split at h
      · cases h
      · have := quoP_le _ _ _ h
        simp only [List.length_cons]; omega
theorem signs_one : ∀ s ∈ signsL, 1 ≤ s.length ∧ s.length ≤ 2 := by decide
/-- A token's length, where it is one. -/
theorem first_len {c : UInt8} {r : Bs} (h : (firstP (c :: r)).e = 0) : 1 ≤ (firstP (c :: r)).len ∧ (firstP (c :: r)).len ≤ r.length + 1 ∧ 1 ≤ (firstP (c :: r)).k ∧ (firstP (c :: r)).k ≤ 6 := by
  have hw := wordL_len (c :: r)
  simp only [List.length_cons] at hw
  have h1 : ∀ hl : wch c = true, 1 ≤ (wordL (c :: r)).length := fun hl => by simp [wordL, hl]
  simp only [firstP, firstC] at h ⊢
  split at h
  · simp [Rd.bad] at h
  split at h
  · rename_i ho hl
    have h1 := h1 (by simp [wch, hl])
    rw [if_neg ho, if_pos hl]
    simp only [nameP] at h ⊢
    split at h
    · rename_i hk; rw [if_pos hk]; simp; omega
    · split at h
      · rename_i hk hk2; rw [if_neg hk, if_pos hk2]; simp; omega
      · simp [Rd.bad] at h
  split at h
  · rename_i ho hl hd
    have h1 := h1 (by simp [wch, hd])
    rw [if_neg ho, if_neg hl, if_pos hd]
    simp only [numP] at h ⊢
    split at h
    · rename_i hk; rw [if_pos hk]
      revert h
      cases valP 16 4294967295 0 (wordL (c :: r)).dropLast <;> simp [numT, Rd.bad]; omega
    · split at h
      · rename_i hk hk2; rw [if_neg hk, if_pos hk2]
        revert h
        cases valP 16 255 0 (wordL (c :: r)).dropLast <;> simp [numT, Rd.bad]; omega
      · rename_i hk hk2; rw [if_neg hk, if_neg hk2]
        revert h
        cases valP 10 2147483647 0 (wordL (c :: r)) <;> simp [numT, Rd.bad]; omega
  split at h
  · rename_i ho hl hd hq
    rw [if_neg ho, if_neg hl, if_neg hd, if_pos hq]
    simp only [quotedP, List.tail_cons] at h ⊢
    cases hk : quoP 0 r with
    | none => rw [hk] at h; simp [quoT, Rd.bad] at h
    | some k =>
      have := quoP_le _ _ _ hk
      simp [quoT]; omega
  · rename_i ho hl hd hq
    rw [if_neg ho, if_neg hl, if_neg hd, if_neg hq]
    simp only [signP] at h ⊢
    cases hk : signsL.find? (fun s => s.isPrefixOf (c :: r)) with
    | none => rw [hk] at h; simp [signT, Rd.bad] at h
    | some s =>
      have h1 := signs_one s (List.mem_of_find?_eq_some hk)
      have h2 := List.find?_some hk
      have h3 := (List.isPrefixOf_iff_prefix.1 h2).length_le
      simp only [List.length_cons] at h3
      simp [signT]; omega
theorem first_end {l : Bs} (h : (firstP l).e = 0) : (firstP l).k = 0 ↔ l = [] := by
  cases l with
  | nil => simp [firstP]
  | cons c r => have := first_len h; simp; omega
end Go.Proofs.YtllhcjmabhempaaDoor
