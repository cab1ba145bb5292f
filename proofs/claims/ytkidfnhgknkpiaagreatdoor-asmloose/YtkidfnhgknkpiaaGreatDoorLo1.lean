/-
  Layer 6, plain: lines that say nothing, and blanks ahead of lines, make no difference but to the numbers of lines. Nothing of the program's run is in this text.
-/
import Derived.Test.YtkidfnhgknkpiaaGreatDoorBkA
namespace Go.Proofs.YtkidfnhgknkpiaaGreatDoor
set_option linter.unusedVariables false
set_option linter.unusedSimpArgs false

def insL (k : Nat) : Bs := if k % 3 = 0 then [59, 32, 120] else if k % 3 = 1 then [32, 9] else [13]
theorem insL_said (k : Nat) : saidP (insL k) = [] := by
  unfold insL
  split
  · simp [saidP, cutB, trimP_eq]
  · split <;> simp [saidP, cutB, trimP_eq, blk]
theorem insL_free (k : Nat) : (10 : UInt8) ∉ insL k := by
  unfold insL
  split
  · decide
  · split <;> decide
section
variable (p : Nat → Int)
/-- The bytes, the lines, how many: put in ahead of the line j by the first m places. -/
def insB (j : Nat) : Nat → Bs
  | 0 => []
  | m + 1 => insB j m ++ (if p m = (j : Int) then insL m ++ [10] else [])
def insLs (j : Nat) : Nat → List Bs
  | 0 => []
  | m + 1 => insLs j m ++ (if p m = (j : Int) then [insL m] else [])
def insN (j : Nat) : Nat → Nat
  | 0 => 0
  | m + 1 => insN j m + (if p m = (j : Int) then 1 else 0)
theorem insN_le (j : Nat) : ∀ m, insN p j m ≤ m
  | 0 => Nat.le_refl _
  | m + 1 => by have := insN_le j m; unfold insN; split <;> omega
theorem insB_len (j : Nat) : ∀ m, (insB p j m).length ≤ 4 * m
  | 0 => by simp [insB]
  | m + 1 => by
    have := insB_len j m
    have h : (insL m ++ [10]).length ≤ 4 := by
      unfold insL
      split
      · simp
      · split <;> simp
    unfold insB
    split
    · rw [List.length_append]; omega
    · simp; omega
theorem ins_parts (j : Nat) : ∀ (m : Nat) (r : Bs), parts 10 (insB p j m ++ r) = insLs p j m ++ parts 10 r
  | 0, r => by simp [insB, insLs]
  | m + 1, r => by
    unfold insB insLs
    split
    · rw [List.append_assoc, ins_parts j m, List.append_assoc, List.singleton_append, parts_app _ (insL_free m)]; simp
    · rw [List.append_nil, List.append_nil, ins_parts j m]
theorem ins_go (j : Nat) : ∀ (m : Nat) (R : List Bs) (n : Nat) (ws : List Int), goP (insLs p j m ++ R) n ws = goP R (n + insN p j m) ws
  | 0, R, n, ws => by simp [insLs, insN]
  | m + 1, R, n, ws => by
    unfold insLs insN
    split
    · rw [List.append_assoc, ins_go j m, List.singleton_append, goP, if_pos (insL_said m), Nat.add_assoc]
    · rw [List.append_nil, ins_go j m, Nat.add_zero]
variable (M : Nat)
def pre : List Bs → Nat → Bs
  | [], _ => []
  | l :: r, j => insB p j M ++ [32, 9] ++ l ++ [10] ++ pre r (j + 1)
def preLs : List Bs → Nat → List Bs
  | [], _ => []
  | l :: r, j => insLs p j M ++ ([32, 9] ++ l) :: preLs r (j + 1)
theorem pre_snoc : ∀ (a : List Bs) (l : Bs) (j : Nat), pre p M (a ++ [l]) j = pre p M a j ++ insB p (j + a.length) M ++ [32, 9] ++ l ++ [10]
  | [], l, j => by simp [pre]
  | x :: a, l, j => by
    rw [List.cons_append, pre, pre_snoc a l (j + 1), pre]
    simp [Nat.add_assoc, Nat.add_comm 1]
theorem preLs_snoc : ∀ (a : List Bs) (l : Bs) (j : Nat), preLs p M (a ++ [l]) j = preLs p M a j ++ (insLs p (j + a.length) M ++ [[32, 9] ++ l])
  | [], l, j => by simp [preLs]
  | x :: a, l, j => by
    rw [List.cons_append, preLs, preLs_snoc a l (j + 1), preLs]
    simp [Nat.add_assoc, Nat.add_comm 1]
theorem no10 {l : Bs} (h : (10 : UInt8) ∉ l) : (10 : UInt8) ∉ [32, 9] ++ l := by simp [h]
theorem pre_parts : ∀ (a : List Bs) (j : Nat) (r : Bs), (∀ l ∈ a, (10 : UInt8) ∉ l) → parts 10 (pre p M a j ++ r) = preLs p M a j ++ parts 10 r
  | [], j, r, _ => by simp [pre, preLs]
  | l :: a, j, r, h => by
    have e : pre p M (l :: a) j ++ r = insB p j M ++ (([32, 9] ++ l) ++ 10 :: (pre p M a (j + 1) ++ r)) := by simp [pre]
    rw [e, ins_parts, parts_app _ (no10 (h l (by simp))), pre_parts a (j + 1) r (fun x hx => h x (by simp [hx])), preLs]
    simp
theorem out_parts (a : List Bs) (z : Bs) (h : ∀ l ∈ a ++ [z], (10 : UInt8) ∉ l) : parts 10 (pre p M a 1 ++ insB p (1 + a.length) M ++ [32, 9] ++ z) = preLs p M (a ++ [z]) 1 := by
  rw [List.append_assoc, List.append_assoc, pre_parts p M a 1 _ (fun l hl => h l (by simp [hl])), ins_parts, preLs_snoc]
  rw [parts_free (no10 (h z (by simp)))]
theorem trim_lead (b : UInt8) (x : Bs) (hb : blk b = true) : trimP (b :: x) = trimP x := by
  rw [trimP_eq, trimP_eq, List.reverse_cons]
  by_cases h : x.reverse.dropWhile blk = []
  · have h2 : (x.reverse ++ [b]).dropWhile blk = [] := by
      rw [List.dropWhile_append]
      simp [h, hb]
    rw [h2, h]
  · have h2 : (x.reverse ++ [b]).dropWhile blk = x.reverse.dropWhile blk ++ [b] := by
      rw [List.dropWhile_append]
      simp [h]
    rw [h2, List.reverse_append, List.reverse_singleton, List.singleton_append, List.dropWhile_cons, if_pos hb]
theorem said_lead (l : Bs) : saidP ([32, 9] ++ l) = saidP l := by
  unfold saidP
  rw [show ([32, 9] ++ l : Bs) = 32 :: 9 :: l from rfl, cutB_cons, cutB_cons]
  simp only [show ([59] : Bs).contains 32 = false by decide, show ([59] : Bs).contains 9 = false by decide]
  simp only [Bool.false_eq_true, if_false]
  rw [trim_lead 32 _ (by decide), trim_lead 9 _ (by decide)]
/-- How many lines were put in ahead of the lines j, j + 1, .., d of them. -/
def sumN (j : Nat) : Nat → Nat
  | 0 => 0
  | d + 1 => insN p j M + sumN (j + 1) d
theorem go_loose : ∀ (ls : List Bs) (j n N : Nat) (ws : List Int),
    (∀ r, goP ls n ws = .words r → goP (preLs p M ls j) N ws = .words r) ∧ (∀ q, goP ls n ws = .line q → ∃ d, 1 ≤ d ∧ d ≤ ls.length ∧ q = n + d ∧ goP (preLs p M ls j) N ws = .line (N + d + sumN p M j d))
  | [], j, n, N, ws => by simp [goP, preLs]
  | l :: t, j, n, N, ws => by
    have step : goP (preLs p M (l :: t) j) N ws = goP (([32, 9] ++ l) :: preLs p M t (j + 1)) (N + insN p j M) ws := by rw [preLs, ins_go]
    rw [step, goP, goP, said_lead]
    by_cases hs : saidP l = []
    · rw [if_pos hs, if_pos hs]
      obtain ⟨h1, h2⟩ := go_loose t (j + 1) (n + 1) (N + insN p j M + 1) ws
      refine ⟨h1, fun q hq => ?_⟩
      obtain ⟨d, d1, d2, e, hd⟩ := h2 q hq
      exact ⟨d + 1, by omega, by simp; omega, by omega, by rw [hd, sumN]; congr 1; omega⟩
    · rw [if_neg hs, if_neg hs]
      cases hw : wordP (saidP l) (4 * ws.length) with
      | none =>
        refine ⟨(fun r hr => by cases hr), fun q hq => ?_⟩
        injection hq with hq
        exact ⟨1, by omega, by simp, by omega, by simp [sumN]; omega⟩
      | some x =>
        obtain ⟨h1, h2⟩ := go_loose t (j + 1) (n + 1) (N + insN p j M + 1) (ws ++ [x])
        refine ⟨h1, fun q hq => ?_⟩
        obtain ⟨d, d1, d2, e, hd⟩ := h2 q hq
        exact ⟨d + 1, by omega, by simp; omega, by omega, by simp only []; rw [hd, sumN]; congr 1; omega⟩
/-- How many of the lines put in ahead of the lines 1 to c count, where the line n is refused. -/
def mv (n : Int) : Nat → Nat
  | 0 => 0
  | c + 1 => mv n c + (if ((c + 1 : Nat) : Int) ≤ n then insN p (c + 1) M else 0)
theorem sumN_snoc : ∀ (d j : Nat), sumN p M j (d + 1) = sumN p M j d + insN p (j + d) M
  | 0, j => by simp [sumN]
  | d + 1, j => by rw [sumN, sumN_snoc d (j + 1), sumN]; rw [show j + 1 + d = j + (d + 1) by omega]; omega
theorem mv_all (n : Nat) : ∀ c, c ≤ n → mv p M n c = sumN p M 1 c
  | 0, _ => rfl
  | c + 1, h => by rw [mv, mv_all n c (by omega), if_pos (by omega), sumN_snoc]; rw [Nat.add_comm 1 c]
theorem mv_past (n : Nat) : ∀ c, n ≤ c → mv p M n c = mv p M n n
  | 0, h => by obtain rfl : n = 0 := by omega
               rfl
  | c + 1, h => by
    by_cases e : n = c + 1
    · rw [e]
    · rw [mv, if_neg (by omega), mv_past n c (by omega)]; rfl
theorem mv_zero : ∀ c, mv p M 0 c = 0
  | 0 => rfl
  | c + 1 => by rw [mv, mv_zero c, if_neg (by omega)]
theorem mv_le (n : Int) : ∀ c, mv p M n c ≤ c * M
  | 0 => by simp [mv]
  | c + 1 => by
    have h1 := mv_le n c
    have h2 := insN_le p (c + 1) M
    rw [mv, Nat.succ_mul]
    split <;> omega
/-- The law's plain part: T's lines are a and z; what is put together of them is read as T is, but for the line's number. -/
theorem loose_back (T : Bs) (a : List Bs) (z : Bs) (hT : parts 10 T = a ++ [z]) (hn : ∀ l ∈ a ++ [z], (10 : UInt8) ∉ l) (h1 : ¬ 65536 < T.length) (O : Bs) (hO : O = pre p M a 1 ++ insB p (1 + a.length) M ++ [32, 9] ++ z) (h2 : ¬ 65536 < O.length) :
    parseW O = parseW T ∧ parseE O = parseE T ∧ parseN O = (if parseE T = 0 then 0 else parseN T + mv p M (parseN T) (a.length + 1)) ∧ (parseE T = 0 → parseN T = 0) := by
  have hP : parts 10 O = preLs p M (parts 10 T) 1 := by rw [hO, out_parts p M a z hn, hT]
  obtain ⟨g1, g2⟩ := go_loose p M (parts 10 T) 1 0 0 []
  unfold parseW parseE parseN
  rw [if_neg h1, if_neg h2, if_neg h1, if_neg h2, if_neg h1, if_neg h2, hP]
  cases hg : goP (parts 10 T) 0 [] with
  | words r => rw [g1 r hg]; simp
  | line q =>
    obtain ⟨d, d1, d2, e, hd⟩ := g2 q hg
    rw [hd]
    have hq : q = d := by omega
    subst hq
    have hlen : (parts 10 T).length = a.length + 1 := by rw [hT]; simp
    refine ⟨rfl, rfl, ?_, by simp⟩
    simp only []
    rw [if_neg (by decide), mv_past p M q (a.length + 1) (by omega), mv_all p M q q (Nat.le_refl _)]
    simp
end
end Go.Proofs.YtkidfnhgknkpiaaGreatDoor
