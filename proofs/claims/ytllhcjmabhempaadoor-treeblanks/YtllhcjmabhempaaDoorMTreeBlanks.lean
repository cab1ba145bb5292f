/-
  Layer 9, plain: the tokens of a source. Nothing of the program's run is in this text but the names of what it answers.
  Layer 9, plain: an expression within a module. Nothing of the program's run is in this text but the names of what it answers.
  Layer 9, plain: trees that are read have as many parts at a node, at most, as there are tokens.
  Layer 9: Same, of two trees that are alike but for places, asked without places.
  Layer 9: the laws' head.
  Layer 8, plain: a token is read the same with a blank, a remark, or its own next byte behind it. Nothing of the program's run is in this text.
  Layer 8, plain: tokens apart by other blanks and remarks. Nothing of the program's run is in this text.
  Layer 9, plain: a module's tree has few parts at each node. Nothing of the program's run is in this text but the names of what it answers.
  Layer 9, plain: blanks and remarks ahead of tokens change nothing but places.
  Layer 9: spread.
  Layer 9: the walk of TreeBlanks.
  Layer 9: TreeBlanks, whole.
  From what the program's text lays into the tables of keywords and signs to how they lie; the way from a contract to a row; texts that came in.
  Proved: for every text and every row of bytes the law TreeBlanks returns true, where the tables of keywords and signs hold what their initialisers lay: blanks and remarks ahead of tokens change nothing but places. No other condition.
-/
import Derived.Test.YtllhcjmabhempaaDoorMWhm
import Derived.Test.YtllhcjmabhempaaDoorMPge
import Derived.Test.YtllhcjmabhempaaDoorDsg
import Derived.Test.YtllhcjmabhempaaDoorIdx
import Derived.OpenShut
import Derived.Test.YtllhcjmabhempaaDoorTkn
import Derived.Test.YtllhcjmabhempaaDoorTie
import Derived.Test.YtllhcjmabhempaaDoorCards
import Derived.SliceStrings
import Derived.MakeChecks
import Derived.Lay
import Derived.LaidMore
import Derived.SevenTiedAt
import Derived.JoinedOf
import Derived.ChangeSame
import Derived.Handed
import Derived.SizedLaws
import Derived.ChangeOld
import Derived.Below
import Derived.Shelf.Vars
import Derived.ChangeMaps5
namespace Go.Proofs.YtllhcjmabhempaaDoor
set_option linter.unusedVariables false
set_option linter.unusedSimpArgs false

theorem good_ts (l : Bs) (h : (allP l).e = 0) : GoodT (allP l).ts := by
  obtain ⟨d, x, e1, e2, _⟩ := allP_shape l h
  have hl := allP_last l h
  refine ⟨by rw [e1]; simp, fun y r ⟨a, ha⟩ hk => ?_⟩
  have hq : a.length < (allP l).ts.length := by rw [← ha]; simp
  have hy : (allP l).ts[a.length] = y := by
    have h2 : (allP l).ts[a.length]? = some y := by rw [← ha]; simp
    rw [List.getElem?_eq_getElem hq] at h2
    exact Option.some.inj h2
  have := hl a.length hq (by rw [hy]; exact hk)
  rw [← ha] at this
  intro e
  rw [e] at this
  simp at this
theorem short (l : Bs) (h : (allP l).e = 0) : l.length ≤ 16384 := by
  by_cases hl : l.length ≤ 16384
  · exact hl
  · unfold allP at h; rw [if_pos (by omega)] at h; simp at h
end Go.Proofs.YtllhcjmabhempaaDoor

namespace Go.Proofs.YtllhcjmabhempaaDoor
set_option linter.unusedVariables false
set_option linter.unusedSimpArgs false

def TT : Nat → Nat → Prop := fun _ _ => True
theorem TksL.lift {a b : List Tok} : TksL false TT a b → TksL true TT a b := by
  intro h
  induction h with
  | nil => exact .nil
  | cons h _ ih =>
    obtain ⟨hp, h | ⟨e, _⟩⟩ := h
    · exact .cons ⟨hp, .inl h⟩ ih
    · cases e
theorem TksL.app {ex : Bool} {Pl : Nat → Nat → Prop} {a b : List Tok} (h : TksL ex Pl a b) : ∀ {c d : List Tok}, TksL ex Pl c d → TksL ex Pl (a ++ c) (b ++ d) := by
  induction h with
  | nil => intro c d h; exact h
  | cons h _ ih => intro c d h2; exact .cons h (ih h2)
theorem TksL.length {ex : Bool} {Pl : Nat → Nat → Prop} {a b : List Tok} (h : TksL ex Pl a b) : a.length = b.length := by
  induction h with
  | nil => rfl
  | cons _ _ ih => simp [ih]
theorem TksL.dropLast {ex : Bool} {Pl : Nat → Nat → Prop} {a b : List Tok} (h : TksL ex Pl a b) : TksL ex Pl a.dropLast b.dropLast := by
  induction h with
  | nil => exact .nil
  | cons h r ih =>
    cases r with
    | nil => exact .nil
    | cons h2 r2 => exact .cons h ih
/-- A text is read the same wherever it stands, but for places. -/
theorem goX_shift : ∀ (n p q : Nat) (l : Bs), l.length ≤ n → (goX p l).e = (goX q l).e ∧ ((goX p l).e = 0 → TksL false TT (goX p l).ts (goX q l).ts) := by
  intro n
  induction n with
  | zero =>
    intro p q l hl
    have : l = [] := List.eq_nil_of_length_eq_zero (by omega)
    subst this
    rw [goX_end p [] rfl rfl, goX_end q [] rfl rfl]
    exact ⟨rfl, fun _ => .cons ⟨trivial, .inl ⟨rfl, rfl, rfl⟩⟩ .nil⟩
  | succ n ih =>
    intro p q l hl
    obtain ⟨r, hr⟩ : ∃ r, firstP (l.drop (skip l)) = r := ⟨_, rfl⟩
    by_cases h0 : r.e = 0
    · by_cases hk : r.k = 0
      · rw [goX_end p l (by rw [hr]; exact h0) (by rw [hr]; exact hk), goX_end q l (by rw [hr]; exact h0) (by rw [hr]; exact hk)]
        exact ⟨rfl, fun _ => .cons ⟨trivial, .inl ⟨rfl, rfl, rfl⟩⟩ .nil⟩
      · obtain ⟨g, g2, g3⟩ := goX_step p l r hr h0 hk
        obtain ⟨k, _, _⟩ := goX_step q l r hr h0 hk
        obtain ⟨i1, i2⟩ := ih (p + skip l + r.len) (q + skip l + r.len) (l.drop (skip l + r.len)) (by rw [List.length_drop]; omega)
        rw [g, k]
        unfold Al.pre
        by_cases he : (goX (p + skip l + r.len) (l.drop (skip l + r.len))).e = 0
        · rw [if_pos he, if_pos (by rw [← i1]; exact he)]
          exact ⟨i1, fun _ => .cons ⟨trivial, .inl ⟨rfl, rfl, rfl⟩⟩ (i2 he)⟩
        · rw [if_neg he, if_neg (by rw [← i1]; exact he)]
          exact ⟨i1, fun h => absurd h he⟩
    · rw [goX_bad p l r.e (by rw [hr]) h0, goX_bad q l r.e (by rw [hr]) h0]
      exact ⟨rfl, fun h => absurd h h0⟩
/-- No token but the last is the end. -/
theorem goX_kinds : ∀ (n p : Nat) (l : Bs), l.length ≤ n → (goX p l).e = 0 → ∃ d x, (goX p l).ts = d ++ [x] ∧ x.k = 0 ∧ x.t = [] ∧ ∀ y ∈ d, y.k ≠ 0 := by
  intro n
  induction n with
  | zero =>
    intro p l hl _
    have : l = [] := List.eq_nil_of_length_eq_zero (by omega)
    subst this
    rw [goX_end p [] rfl rfl]
    exact ⟨[], _, rfl, rfl, rfl, fun y h => by cases h⟩
  | succ n ih =>
    intro p l hl he
    obtain ⟨r, hr⟩ : ∃ r, firstP (l.drop (skip l)) = r := ⟨_, rfl⟩
    by_cases h0 : r.e = 0
    · by_cases hk : r.k = 0
      · rw [goX_end p l (by rw [hr]; exact h0) (by rw [hr]; exact hk)]
        exact ⟨[], _, rfl, rfl, rfl, fun y h => by cases h⟩
      · obtain ⟨g, g2, g3⟩ := goX_step p l r hr h0 hk
        rw [g] at he ⊢
        unfold Al.pre at he ⊢
        split at he
        · rename_i h1
          obtain ⟨d, x, e1, e2, e3, e4⟩ := ih _ (l.drop (skip l + r.len)) (by rw [List.length_drop]; omega) h1
          rw [if_pos h1]
          refine ⟨_ :: d, x, by rw [e1]; rfl, e2, e3, fun y hy => ?_⟩
          rcases List.mem_cons.1 hy with rfl | hy
          · exact hk
          · exact e4 y hy
        · rename_i h1; exact absurd he h1
    · rw [goX_bad p l r.e (by rw [hr]) h0] at he
      exact absurd he h0
def preL : Bs := [77, 79, 68, 85, 76, 69, 32, 65, 59, 32, 66, 69, 71, 73, 78, 32, 120, 32, 58, 61]
def sufL : Bs := [69, 78, 68, 32, 65, 46]
def inL (l : Bs) : Bs := preL ++ 32 :: (l ++ 32 :: sufL)
def preT : List Tok := [⟨2, [77, 79, 68, 85, 76, 69], 0, 0⟩, ⟨1, [65], 0, 7⟩, ⟨6, [59], 0, 8⟩, ⟨2, [66, 69, 71, 73, 78], 0, 10⟩, ⟨1, [120], 0, 16⟩, ⟨6, [58, 61], 0, 18⟩]
theorem pre_read : goX 0 preL = ⟨preT ++ [⟨0, [], 0, 20⟩], 0, 0⟩ := by kernel_rfl
theorem suf_read : goX 0 (32 :: sufL) = ⟨[⟨2, [69, 78, 68], 0, 1⟩, ⟨1, [65], 0, 5⟩, ⟨6, [46], 0, 6⟩, ⟨0, [], 0, 7⟩], 0, 0⟩ := by kernel_rfl
/-- The tokens of an expression within a module. -/
theorem in_read (l : Bs) (h : (allP l).e = 0) (hl : (inL l).length ≤ 16384) : (allP (inL l)).e = 0 ∧ ∃ D D' x a b c d, (allP l).ts = D ++ [x] ∧ x.k = 0 ∧ (∀ y ∈ D, y.k ≠ 0) ∧ TksL false TT D D' ∧ (allP (inL l)).ts = preT ++ (D' ++ [⟨2, [69, 78, 68], 0, a⟩, ⟨1, [65], 0, b⟩, ⟨6, [46], 0, c⟩, ⟨0, [], 0, d⟩]) := by
  have hs := short l h
  rw [allP_goX l hs] at h ⊢
  obtain ⟨D, x, e1, e2, e3, e4⟩ := goX_kinds _ 0 l (Nat.le_refl _) h
  rw [allP_goX _ hl]
  have s1 := goX_shift _ 0 21 l (Nat.le_refl _)
  have s2 := s1.2 h
  have g21 : goX 20 (32 :: l) = goX 21 l := by
    have hb : blk 32 = true := by decide
    refine goX_same _ _ _ _ (by rw [skip_blk hb]; omega) ?_
    rw [skip_blk hb, Nat.add_comm, List.drop_succ_cons]
  have h21 : (goX 20 (32 :: l)).e = 0 := by rw [g21, ← s1.1]; exact h
  have hP : goX 0 (inL l) = (goX 20 (32 :: (l ++ 32 :: sufL))).pre preT := by
    unfold inL
    rw [goX_app (l ++ 32 :: sufL) _ 0 preL (Nat.le_refl _) (by rw [pre_read]), pre_read]
    rfl
  have hI : goX 20 (32 :: (l ++ 32 :: sufL)) = (goX (20 + (32 :: l).length) (32 :: sufL)).pre (goX 20 (32 :: l)).ts.dropLast := goX_app sufL _ 20 (32 :: l) (Nat.le_refl _) h21
  have s3 := goX_shift _ 0 (20 + (32 :: l).length) (32 :: sufL) (Nat.le_refl _)
  have h4 : (goX (20 + (32 :: l).length) (32 :: sufL)).e = 0 := by rw [← s3.1, suf_read]
  have s4 := s3.2 (by rw [suf_read])
  rw [suf_read] at s4
  generalize goX (20 + (32 :: l).length) (32 :: sufL) = SF at s4 h4 hI
  have hI2 : (goX 20 (32 :: (l ++ 32 :: sufL))).e = 0 ∧ (goX 20 (32 :: (l ++ 32 :: sufL))).ts = (goX 20 (32 :: l)).ts.dropLast ++ SF.ts := by
    rw [hI]; unfold Al.pre; rw [if_pos h4]; exact ⟨h4, rfl⟩
  rw [hP]
  unfold Al.pre
  rw [if_pos hI2.1]
  refine ⟨hI2.1, ?_⟩
  rw [hI2.2, g21]
  have d1 := s2.dropLast
  rw [e1, List.dropLast_concat] at d1
  clear hI hI2 hP
  generalize SF.ts = st at s4 ⊢
  cases s4 with | @cons _ y1 _ b1 k1 r1 =>
  cases r1 with | @cons _ y2 _ b2 k2 r2 =>
  cases r2 with | @cons _ y3 _ b3 k3 r3 =>
  cases r3 with | @cons _ y4 _ b4 k4 r4 =>
  cases r4 with | nil =>
  obtain ⟨_, ⟨a1, a2, a3⟩ | ⟨e, _⟩⟩ := k1
  · obtain ⟨_, ⟨c1, c2, c3⟩ | ⟨e, _⟩⟩ := k2
    · obtain ⟨_, ⟨f1, f2, f3⟩ | ⟨e, _⟩⟩ := k3
      · obtain ⟨_, ⟨i1, i2, i3⟩ | ⟨e, _⟩⟩ := k4
        · refine ⟨D, (goX 21 l).ts.dropLast, x, y1.p, y2.p, y3.p, y4.p, e1, e2, e4, d1, ?_⟩
          cases y1; cases y2; cases y3; cases y4
          simp only at a1 a2 a3 c1 c2 c3 f1 f2 f3 i1 i2 i3
          subst a1 a2 a3 c1 c2 c3 f1 f2 f3 i1 i2 i3
          rfl
        · cases e
      · cases e
    · cases e
  · cases e
end Go.Proofs.YtllhcjmabhempaaDoor

namespace Go.Proofs.YtllhcjmabhempaaDoor
set_option linter.unusedVariables false
set_option linter.unusedSimpArgs false

inductive Kb (B : Nat) : Nd → Prop
  | mk (k : Int) (t : Bs) (n : Int) (f : Bool) (kids : List Nd) (p : Nat) (hl : kids.length ≤ B) (hk : ∀ x ∈ kids, Kb B x) : Kb B (.mk k t n f kids p)
theorem Kb.len {B : Nat} {n : Nd} (h : Kb B n) : n.kids.length ≤ B := by cases h; assumption
theorem Kb.all {B : Nat} {n : Nd} (h : Kb B n) : ∀ x ∈ n.kids, Kb B x := by cases h; assumption
theorem Kb.zero {B : Nat} (k : Int) (t : Bs) (n : Int) (f : Bool) (p : Nat) : Kb B (.mk k t n f [] p) := .mk k t n f [] p (Nat.zero_le _) (by simp)
theorem Kb.one {B : Nat} {x : Nd} (hB : 2 ≤ B) (hx : Kb B x) (k : Int) (t : Bs) (n : Int) (f : Bool) (p : Nat) : Kb B (.mk k t n f [x] p) := .mk k t n f [x] p (by simp; omega) (by simpa using hx)
theorem Kb.two {B : Nat} {x y : Nd} (hB : 2 ≤ B) (hx : Kb B x) (hy : Kb B y) (k : Int) (t : Bs) (n : Int) (f : Bool) (p : Nat) : Kb B (.mk k t n f [x, y] p) := .mk k t n f [x, y] p (by simpa using hB) (by simp; exact ⟨hx, hy⟩)
theorem Kb.idx {B : Nat} (hB : 2 ≤ B) (p : Nat) : ∀ (l : List Nd) (a : Nd), Kb B a → (∀ x ∈ l, Kb B x) → Kb B (idxN p a l)
  | [], a, ha, _ => ha
  | x :: r, a, ha, h => Kb.idx hB p r _ (Kb.two hB ha (h x (by simp)) 33 [] 0 false p) (fun y hy => h y (by simp [hy]))
def ntB (B : Nat) : NT → Prop
  | .simpleL l => Kb B l
  | .termL l => Kb B l
  | .desigL l => Kb B l
  | .row s p acc => s ≠ [] ∧ (∀ x ∈ acc, Kb B x) ∧ ntB B p ∧ (p = .expr ∨ p = .elem)
  | _ => True
def acL : NT → Nat
  | .row _ _ acc => acc.length
  | _ => 0
theorem wd_len {t : List Tok} (h : wd t ≠ []) : 1 ≤ t.length := by
  cases t with
  | nil => exact absurd rfl h
  | cons a r => simp
theorem name_len {t : List Tok} {x : Tok} {r : List Tok} (h : nameR t = .ok x r) : r = t.tail := by
  unfold nameR at h; split at h
  · simp only [Rs.ok.injEq] at h; exact h.2.symm
  · cases h
theorem must_len {s : Bs} {t : List Tok} {x : Tok} {r : List Tok} (h : mustR s t = .ok x r) : r = t.tail := by
  unfold mustR at h; split at h
  · simp only [Rs.ok.injEq] at h; exact h.2.symm
  · cases h
theorem begin_len {o : Nat} {t : List Tok} {x : Tok} {r : List Tok} (h : beginR o t = .ok x r) : r = t.tail := by
  unfold beginR at h; split at h
  · cases h
  · simp only [Rs.ok.injEq] at h; exact h.2.symm
theorem bind_inv {α β : Type} {x : Rs α} {f : α → List Tok → Rs β} {b : β} {r : List Tok} (h : x.bind f = .ok b r) : ∃ a s, x = .ok a s ∧ f a s = .ok b r := by
  cases x with
  | ok a s => exact ⟨a, s, rfl, h⟩
  | bad p e => cases h
theorem run_small (B : Nat) (hB : 2 ≤ B) : ∀ (f : Nat) (nt : NT) (o : Nat) (t : List Tok) (n : Nd) (r : List Tok), run f nt o t = .ok n r → ntB B nt → acL nt + t.length + 1 ≤ B → Kb B n ∧ r.length ≤ t.length ∧ (∀ s p acc, nt = .row s p acc → n.kids.length ≤ acc.length + t.length + 1) := by
  intro f
  induction f with
  | zero => intro nt o t n r h; cases h
  | succ f ih =>
    intro nt o t n r h hn hl
    have tl := List.length_tail (l := t)
    cases nt with
    | expr =>
      rw [run] at h
      obtain ⟨l, s, h1, h2⟩ := bind_inv h
      obtain ⟨k1, z1, _⟩ := ih _ _ _ _ _ h1 trivial hl
      have zt := List.length_tail (l := s)
      split at h2
      · obtain ⟨y, u, h3, h4⟩ := bind_inv h2
        obtain ⟨k2, z2, _⟩ := ih _ _ _ _ _ h3 trivial (by simp only [acL] at hl ⊢; omega)
        simp only [Rs.ok.injEq] at h4
        obtain ⟨rfl, rfl⟩ := h4
        exact ⟨Kb.two hB k1 k2 _ _ _ _ _, by omega, fun _ _ _ e => by cases e⟩
      · simp only [Rs.ok.injEq] at h2
        obtain ⟨rfl, rfl⟩ := h2
        exact ⟨k1, z1, fun _ _ _ e => by cases e⟩
    | simple =>
      rw [run] at h
      obtain ⟨l, s, h1, h2⟩ := bind_inv h
      obtain ⟨k1, z1, _⟩ := ih _ _ _ _ _ h1 trivial hl
      obtain ⟨k2, z2, _⟩ := ih _ _ _ _ _ h2 k1 (by simp only [acL] at hl ⊢; omega)
      exact ⟨k2, by omega, fun _ _ _ e => by cases e⟩
    | simpleL l =>
      rw [run] at h
      split at h
      · obtain ⟨y, s, h1, h2⟩ := bind_inv h
        obtain ⟨k1, z1, _⟩ := ih _ _ _ _ _ h1 trivial (by simp only [acL] at hl ⊢; omega)
        obtain ⟨k2, z2, _⟩ := ih _ _ _ _ _ h2 (Kb.two hB hn k1 _ _ _ _ _) (by simp only [acL] at hl ⊢; omega)
        exact ⟨k2, by omega, fun _ _ _ e => by cases e⟩
      · simp only [Rs.ok.injEq] at h
        obtain ⟨rfl, rfl⟩ := h
        exact ⟨hn, Nat.le_refl _, fun _ _ _ e => by cases e⟩
    | first =>
      rw [run] at h
      split at h
      · obtain ⟨x, s, h1, h2⟩ := bind_inv h
        obtain ⟨y, u, h3, h4⟩ := bind_inv h2
        have e1 := begin_len h1
        subst e1
        obtain ⟨k1, z1, _⟩ := ih _ _ _ _ _ h3 trivial (by simp only [acL] at hl ⊢; omega)
        simp only [Rs.ok.injEq] at h4
        obtain ⟨rfl, rfl⟩ := h4
        exact ⟨Kb.one hB k1 _ _ _ _ _, by omega, fun _ _ _ e => by cases e⟩
      · obtain ⟨k1, z1, _⟩ := ih _ _ _ _ _ h trivial hl
        exact ⟨k1, z1, fun _ _ _ e => by cases e⟩
    | term =>
      rw [run] at h
      obtain ⟨l, s, h1, h2⟩ := bind_inv h
      obtain ⟨k1, z1, _⟩ := ih _ _ _ _ _ h1 trivial hl
      obtain ⟨k2, z2, _⟩ := ih _ _ _ _ _ h2 k1 (by simp only [acL] at hl ⊢; omega)
      exact ⟨k2, by omega, fun _ _ _ e => by cases e⟩
    | termL l =>
      rw [run] at h
      split at h
      · obtain ⟨y, s, h1, h2⟩ := bind_inv h
        obtain ⟨k1, z1, _⟩ := ih _ _ _ _ _ h1 trivial (by simp only [acL] at hl ⊢; omega)
        obtain ⟨k2, z2, _⟩ := ih _ _ _ _ _ h2 (Kb.two hB hn k1 _ _ _ _ _) (by simp only [acL] at hl ⊢; omega)
        exact ⟨k2, by omega, fun _ _ _ e => by cases e⟩
      · simp only [Rs.ok.injEq] at h
        obtain ⟨rfl, rfl⟩ := h
        exact ⟨hn, Nat.le_refl _, fun _ _ _ e => by cases e⟩
    | factor =>
      rw [run] at h
      by_cases c1 : (hd t).k = 1
      · rw [if_pos c1] at h
        obtain ⟨k1, z1, _⟩ := ih _ _ _ _ _ h trivial hl
        exact ⟨k1, z1, fun _ _ _ e => by cases e⟩
      rw [if_neg c1] at h
      by_cases d0 : (hd t).k = 3
      · rw [if_pos d0] at h
        simp only [Rs.ok.injEq] at h
        obtain ⟨rfl, rfl⟩ := h
        exact ⟨Kb.zero _ _ _ _ _, by omega, fun _ _ _ e => by cases e⟩
      rw [if_neg d0] at h
      by_cases d1 : (hd t).k = 4
      · rw [if_pos d1] at h
        simp only [Rs.ok.injEq] at h
        obtain ⟨rfl, rfl⟩ := h
        exact ⟨Kb.zero _ _ _ _ _, by omega, fun _ _ _ e => by cases e⟩
      rw [if_neg d1] at h
      by_cases d2 : (hd t).k = 5
      · rw [if_pos d2] at h
        simp only [Rs.ok.injEq] at h
        obtain ⟨rfl, rfl⟩ := h
        exact ⟨Kb.zero _ _ _ _ _, by omega, fun _ _ _ e => by cases e⟩
      rw [if_neg d2] at h
      by_cases d3 : wd t = [78, 73, 76]
      · rw [if_pos d3] at h
        simp only [Rs.ok.injEq] at h
        obtain ⟨rfl, rfl⟩ := h
        exact ⟨Kb.zero _ _ _ _ _, by omega, fun _ _ _ e => by cases e⟩
      rw [if_neg d3] at h
      by_cases d4 : wd t = [84, 82, 85, 69]
      · rw [if_pos d4] at h
        simp only [Rs.ok.injEq] at h
        obtain ⟨rfl, rfl⟩ := h
        exact ⟨Kb.zero _ _ _ _ _, by omega, fun _ _ _ e => by cases e⟩
      rw [if_neg d4] at h
      by_cases d5 : wd t = [70, 65, 76, 83, 69]
      · rw [if_pos d5] at h
        simp only [Rs.ok.injEq] at h
        obtain ⟨rfl, rfl⟩ := h
        exact ⟨Kb.zero _ _ _ _ _, by omega, fun _ _ _ e => by cases e⟩
      rw [if_neg d5] at h
      by_cases e0 : wd t = [126]
      · rw [if_pos e0] at h
        obtain ⟨x, s, h1, h2⟩ := bind_inv h
        obtain ⟨y, u, h3, h4⟩ := bind_inv h2
        have e1 := begin_len h1
        subst e1
        obtain ⟨k1, z1, _⟩ := ih _ _ _ _ _ h3 trivial (by simp only [acL] at hl ⊢; omega)
        simp only [Rs.ok.injEq] at h4
        obtain ⟨rfl, rfl⟩ := h4
        exact ⟨Kb.one hB k1 _ _ _ _ _, by omega, fun _ _ _ e => by cases e⟩
      rw [if_neg e0] at h
      by_cases e9 : wd t = [123]
      · rw [if_pos e9] at h
        obtain ⟨x, s, h1, h2⟩ := bind_inv h
        obtain ⟨y, u, h3, h4⟩ := bind_inv h2
        obtain ⟨z, v, h5, h6⟩ := bind_inv h4
        have e1 := begin_len h1
        have e2 := must_len h5
        subst e1
        subst e2
        have ut := List.length_tail (l := u)
        simp only [Rs.ok.injEq] at h6
        obtain ⟨rfl, rfl⟩ := h6
        split at h3
        · simp only [Rs.ok.injEq] at h3
          obtain ⟨rfl, rfl⟩ := h3
          exact ⟨Kb.zero _ _ _ _ _, by omega, fun _ _ _ e => by cases e⟩
        · obtain ⟨k1, z1, q1⟩ := ih _ _ _ _ _ h3 ⟨by decide, by simp, trivial, .inr rfl⟩ (by simp only [acL, List.length_nil] at hl ⊢; omega)
          exact ⟨.mk _ _ _ _ _ _ k1.len k1.all, by omega, fun _ _ _ e => by cases e⟩
      rw [if_neg e9] at h
      by_cases e8 : wd t = [40]
      · rw [if_pos e8] at h
        obtain ⟨x, s, h1, h2⟩ := bind_inv h
        obtain ⟨y, u, h3, h4⟩ := bind_inv h2
        obtain ⟨z, v, h5, h6⟩ := bind_inv h4
        have e1 := begin_len h1
        have e2 := must_len h5
        subst e1
        subst e2
        have ut := List.length_tail (l := u)
        simp only [Rs.ok.injEq] at h6
        obtain ⟨rfl, rfl⟩ := h6
        obtain ⟨k1, z1, _⟩ := ih _ _ _ _ _ h3 trivial (by simp only [acL] at hl ⊢; omega)
        exact ⟨k1, by omega, fun _ _ _ e => by cases e⟩
      rw [if_neg e8] at h
      cases h
    | elem =>
      rw [run] at h
      obtain ⟨l, s, h1, h2⟩ := bind_inv h
      obtain ⟨k1, z1, _⟩ := ih _ _ _ _ _ h1 trivial hl
      have zt := List.length_tail (l := s)
      split at h2
      · obtain ⟨y, u, h3, h4⟩ := bind_inv h2
        obtain ⟨k2, z2, _⟩ := ih _ _ _ _ _ h3 trivial (by simp only [acL] at hl ⊢; omega)
        simp only [Rs.ok.injEq] at h4
        obtain ⟨rfl, rfl⟩ := h4
        exact ⟨Kb.two hB k1 k2 _ _ _ _ _, by omega, fun _ _ _ e => by cases e⟩
      · simp only [Rs.ok.injEq] at h2
        obtain ⟨rfl, rfl⟩ := h2
        exact ⟨k1, z1, fun _ _ _ e => by cases e⟩
    | desig =>
      rw [run] at h
      obtain ⟨x, s, h1, h2⟩ := bind_inv h
      have e1 := name_len h1
      subst e1
      obtain ⟨k1, z1, _⟩ := ih _ _ _ _ _ h2 (Kb.zero _ _ _ _ _) (by simp only [acL] at hl ⊢; omega)
      exact ⟨k1, by omega, fun _ _ _ e => by cases e⟩
    | desigL l =>
      rw [run] at h
      split at h
      · obtain ⟨x, s, h1, h2⟩ := bind_inv h
        have e1 := name_len h1
        subst e1
        have tt := List.length_tail (l := t.tail)
        obtain ⟨k1, z1, _⟩ := ih _ _ _ _ _ h2 (Kb.one hB hn _ _ _ _ _) (by simp only [acL] at hl ⊢; omega)
        exact ⟨k1, by omega, fun _ _ _ e => by cases e⟩
      split at h
      · obtain ⟨x, s, h1, h2⟩ := bind_inv h
        obtain ⟨y, u, h3, h4⟩ := bind_inv h2
        obtain ⟨z, v, h5, h6⟩ := bind_inv h4
        have e1 := begin_len h1
        have e2 := must_len h5
        subst e1
        subst e2
        have ut := List.length_tail (l := u)
        obtain ⟨k1, z1, _⟩ := ih _ _ _ _ _ h3 ⟨by decide, by simp, trivial, .inl rfl⟩ (by simp only [acL, List.length_nil] at hl ⊢; omega)
        obtain ⟨k2, z2, _⟩ := ih _ _ _ _ _ h6 (Kb.idx hB _ _ _ hn k1.all) (by simp only [acL] at hl ⊢; omega)
        exact ⟨k2, by omega, fun _ _ _ e => by cases e⟩
      split at h
      · obtain ⟨k1, z1, _⟩ := ih _ _ _ _ _ h (Kb.one hB hn _ _ _ _ _) (by simp only [acL] at hl ⊢; omega)
        exact ⟨k1, by omega, fun _ _ _ e => by cases e⟩
      split at h
      · rename_i hw
        have t1 := wd_len (t := t) (by rw [hw]; decide)
        obtain ⟨x, s, h1, h2⟩ := bind_inv h
        obtain ⟨y, u, h3, h4⟩ := bind_inv h2
        obtain ⟨z, v, h5, h6⟩ := bind_inv h4
        have e1 := begin_len h1
        have e2 := must_len h5
        subst e1
        subst e2
        have ut := List.length_tail (l := u)
        split at h3
        · simp only [Rs.ok.injEq] at h3
          obtain ⟨rfl, rfl⟩ := h3
          obtain ⟨k2, z2, _⟩ := ih _ _ _ _ _ h6 (Kb.one hB hn _ _ _ _ _) (by simp only [acL] at hl ⊢; omega)
          exact ⟨k2, by omega, fun _ _ _ e => by cases e⟩
        · obtain ⟨k1, z1, q1⟩ := ih _ _ _ _ _ h3 ⟨by decide, by simp, trivial, .inl rfl⟩ (by simp only [acL, List.length_nil] at hl ⊢; omega)
          have q2 := q1 _ _ _ rfl
          simp only [List.length_nil] at q2
          obtain ⟨k2, z2, _⟩ := ih _ _ _ _ _ h6 (.mk _ _ _ _ _ _ (by simp only [acL, List.length_cons] at hl ⊢; omega) (by
            intro a ha
            rcases List.mem_cons.1 ha with rfl | ha
            · exact hn
            · exact k1.all a ha)) (by simp only [acL] at hl ⊢; omega)
          exact ⟨k2, by omega, fun _ _ _ e => by cases e⟩
      · simp only [Rs.ok.injEq] at h
        obtain ⟨rfl, rfl⟩ := h
        exact ⟨hn, Nat.le_refl _, fun _ _ _ e => by cases e⟩
    | row s p acc =>
      rw [run] at h
      obtain ⟨x, u, h1, h2⟩ := bind_inv h
      obtain ⟨hs, ha, hp, hpe⟩ := hn
      have hap : acL p = 0 := by rcases hpe with rfl | rfl <;> rfl
      obtain ⟨k1, z1, _⟩ := ih _ _ _ _ _ h1 hp (by simp only [acL] at hl; omega)
      have ut := List.length_tail (l := u)
      have ha' : ∀ y ∈ acc ++ [x], Kb B y := fun y hy => by
        rcases List.mem_append.1 hy with hy | hy
        · exact ha y hy
        · simp at hy; rw [hy]; exact k1
      split at h2
      · rename_i hw
        have u1 := wd_len (t := u) (by rw [hw]; exact hs)
        obtain ⟨k2, z2, q2⟩ := ih _ _ _ _ _ h2 ⟨hs, ha', hp, hpe⟩ (by simp only [acL, List.length_append, List.length_cons, List.length_nil] at hl ⊢; omega)
        have q3 := q2 _ _ _ rfl
        simp only [List.length_append, List.length_cons, List.length_nil] at q3
        exact ⟨k2, by omega, fun _ _ _ e => by cases e; omega⟩
      · simp only [Rs.ok.injEq] at h2
        obtain ⟨rfl, rfl⟩ := h2
        refine ⟨.mk _ _ _ _ _ _ (by simp only [acL, List.length_append, List.length_cons, List.length_nil] at hl ⊢; omega) ha', z1, fun _ _ _ e => ?_⟩
        cases e
        simp only [lst, Nd.kids, List.length_append, List.length_cons, List.length_nil]; omega
end Go.Proofs.YtllhcjmabhempaaDoor

namespace Go.Proofs.YtllhcjmabhempaaDoor
set_option linter.unusedVariables false
set_option linter.unusedSimpArgs false
open Go.ChangeShapes Go.WideShapes Go.ChangeAt Go.RowKit



theorem kids_at {w : World} {P : Nat → Prop} : ∀ {l : List Nd} {a : Option Addr} {j : Nat}, KidsAt w P a j l → ∀ i (h : i < l.length), ∃ b c, a = some ⟨b, 0, none⟩ ∧ b < w.heap.size ∧ (∀ q, q < 6 → w.cell? ⟨b, (j + i) * 6 + q, none⟩ = (Nc.cells c)[q]?) ∧ NdAt w P c l[i] := by
  intro l
  induction l with
  | nil => intro a j h i hi; simp at hi
  | cons x r ih =>
    intro a j h i hi
    cases h with
    | cons b j c x r hP hb hc hx hr =>
      cases i with
      | zero => exact ⟨b, c, rfl, hb, by simpa using hc, hx⟩
      | succ i =>
        obtain ⟨b', c', e, h1, h2, h3⟩ := ih hr i (by simpa using hi)
        injection e with e
        injection e with e
        subst e
        exact ⟨b, c', rfl, h1, by rw [show j + (i + 1) = j + 1 + i by omega]; exact h2, h3⟩
def LdN (w : World) (b i : Nat) (c : Nc) : Prop := ∀ X, Below w.heap.size w X → (loadNd ⟨b, i * 6, none⟩).run Tryd.prog X = .ok (.agg c.cells) X
theorem NdsL.at {Pl : Nat → Nat → Prop} : ∀ {l l' : List Nd}, NdsL Pl l l' → l'.length = l.length ∧ ∀ i (h : i < l.length) (h' : i < l'.length), NdL Pl l[i] l'[i]
  | _, _, .nil => ⟨rfl, fun i h => absurd h (by simp)⟩
  | _, _, .cons a r => ⟨by simp [(NdsL.at r).1], fun i h h' => by
    cases i with
    | zero => exact a
    | succ i => exact (NdsL.at r).2 i (by simpa using h) (by simpa using h')⟩
set_option maxHeartbeats 8000000 in
set_option maxRecDepth 20000 in
theorem same_al {B : Nat} (hB : B ≤ 1000000) {n : Nd} (h : Kb B n) : ∀ (n' : Nd), NdL TT n n' → ∀ (w : World) (P Q : Nat → Prop) (c d : Nc), NdAt w P c n → NdAt w Q d n' → Calls Tryd.prog 9 #[.agg c.cells, .agg d.cells, .bool false] w fun e w' => e = .returned (.bool true) ∧ Below w.heap.size w w' := by
  induction h with
  | mk k t n f kids p hl hk ih =>
    intro n' ha w P Q c d hc hd
    cases ha with
    | @mk _ _ _ _ _ kids2 _ p2 hp hks =>
    obtain ⟨hkl, hka2⟩ := hks.at
    cases hc with
    | mk k t n f kids p a m hka =>
      cases hd with
      | mk k t n f kids2 p2 a' m' hkb =>
        have KA : Hid (∀ i (h : i < kids.length), ∃ b c, a = some ⟨b, 0, none⟩ ∧ b < w.heap.size ∧ (∀ q, q < 6 → w.cell? ⟨b, (0 + i) * 6 + q, none⟩ = (Nc.cells c)[q]?) ∧ NdAt w P c kids[i]) := fun i h => kids_at hka i h
        have KB : Hid (∀ i (h : i < kids.length), ∃ b c, a' = some ⟨b, 0, none⟩ ∧ b < w.heap.size ∧ (∀ q, q < 6 → w.cell? ⟨b, (0 + i) * 6 + q, none⟩ = (Nc.cells c)[q]?) ∧ NdAt w Q c (kids2[i]'(by omega))) := fun i h => kids_at hkb i (by omega)
        have IH : Hid (∀ i (h : i < kids.length), ∀ (w : World) (P Q : Nat → Prop) (c d : Nc), NdAt w P c kids[i] → NdAt w Q d (kids2[i]'(by omega)) → Calls Tryd.prog 9 #[.agg c.cells, .agg d.cells, .bool false] w fun e w' => e = .returned (.bool true) ∧ Below w.heap.size w w') := fun i h => ih _ (List.getElem_mem h) _ (hka2 i h (by omega))
        clear hka hkb ih hk hka2 hks
        have e1 : (k != k) = false := by simp
        have e2 : ((bs t).toList == (bs t).toList) = true := by simp
        have e3 : (n != n) = false := by simp
        have e4 : (f != f) = false := by simp
        have e6 : ((kids.length : Int) != (kids.length : Int)) = false := by simp
        rw [hkl]
        obtain ⟨len, hlen⟩ : ∃ len, len = kids.length := ⟨_, rfl⟩
        have HL : Hid (len = kids.length) := hlen
        rw [← hlen] at hl e6 ⊢
        clear hlen
        go_enter Tryd.func9, Tryd.ntmps9
        go_wp2
        obtain ⟨W2, hW2⟩ : ∃ W2, W2 = ((w.alloc (.cells (⟨k, bs t, n, f, a, len, m, (p : Int)⟩ : Nc).cells 31)).alloc (.cells (⟨k, bs t, n, f, a', len, m', (p2 : Int)⟩ : Nc).cells 31)) := ⟨_, rfl⟩
        have b2 : Below w.heap.size w W2 := by rw [hW2]; go_grown
        have s2 : W2.heap.size = w.heap.size + 1 + 1 := by rw [hW2]; simp
        have ra : rowAt W2 w.heap.size = some (⟨k, bs t, n, f, a, len, m, (p : Int)⟩ : Nc).cells := by rw [hW2]; exact (rowAt_old _ _ _ (by simp)).trans (rowAt_at _ _ _ _ _ rfl)
        have rb : rowAt W2 (w.heap.size + 1) = some (⟨k, bs t, n, f, a', len, m', (p2 : Int)⟩ : Nc).cells := by rw [hW2]; exact rowAt_at _ _ _ _ _ (by simp)
        rw [← hW2]
        clear hW2
        go_loopg [7, 8] len (fun gf s7 s8 X => ∃ i : Nat, s7 = .int .i64 (i : Int) ∧ i + gf = len ∧ Below W2.heap.size W2 X)
        case atStart => exact ⟨0, rfl, by omega, Below.refl _ _⟩
        case round =>
          obtain ⟨i, rfl, hi, hbx⟩ := hrel
          have ca := rowAt_cell ((rowAt_below hbx w.heap.size (by omega)).trans ra)
          have cb := rowAt_cell ((rowAt_below hbx (w.heap.size + 1) (by omega)).trans rb)
          have hsx := hbx.size
          have lx : w.heap.size < wr.heap.size := by omega
          have lx1 : w.heap.size + 1 < wr.heap.size := by omega
          by_cases hlt : i < len
          · obtain ⟨g', rfl⟩ : ∃ g', gk = g' + 1 := ⟨gk - 1, by omega⟩
            have d0 : decide ((i : Int) < (len : Int)) = true := by simp; omega
            have hb1 : (0 : Int) ≤ (i : Int) := by omega
            have hb2 : (i : Int) < (len : Int) := by omega
            have hik : i < kids.length := by have := HL.out; omega
            obtain ⟨ba, c1, rfl, hla, hca, hna⟩ := KA.out i hik
            obtain ⟨bb, c2, rfl, hlb, hcb, hnb⟩ := KB.out i hik
            have bw : Below w.heap.size w wr := b2.trans (hbx.mono (by omega))
            have bwd : Below w.heap.size w wr.drew := bw.drew
            have LA : LdN wr ba i c1 := fun X hX => loadNd_mid _ (fun q hq => (((bw.trans (hX.mono (by omega))).cell (p := ⟨ba, i * 6 + q, none⟩) hla).trans (by have := hca q hq; rwa [Nat.zero_add] at this)))
            have LB : LdN wr bb i c2 := fun X hX => loadNd_mid _ (fun q hq => (((bw.trans (hX.mono (by omega))).cell (p := ⟨bb, i * 6 + q, none⟩) hlb).trans (by have := hcb q hq; rwa [Nat.zero_add] at this)))
            have CC : Hid (Calls Tryd.prog 9 #[.agg c1.cells, .agg c2.cells, .bool false] wr.drew fun e w' => e = .returned (.bool true) ∧ Below wr.drew.heap.size wr.drew w') := IH.out i hik wr.drew P Q c1 c2 (hna.keep (fun _ hx _ => hx) bwd.size (fun x _ hl => bwd.block x hl)) (hnb.keep (fun _ hx _ => hx) bwd.size (fun x _ hl => bwd.block x hl))
            clear hca hcb hna hnb IH KA KB ra rb
            go_upto_region 6 with fail
            refine wp_region_held_drew (S := (fun X => Below wr.heap.size wr X)) (by kernel_rfl) (Below.refl _ _).drew (fun hHeld => ?_)
            refine wpAnyH_take (i := 0) (v := ?_) rfl (by kernel_rfl) (by kernel_rfl) (by kernel_rfl) (fun _ _ _ h => h) (Or.inl ⟨by rfl, ?y0f⟩) hHeld ?r0f
            case y0f => (intro w2 hSw; go_simp; try rfl)
            simp only [Act.put, List.setIfInBounds_toArray, List.set_cons_zero, List.set_cons_succ]
            refine wpAnyH_take (i := 1) (v := ?_) rfl (by kernel_rfl) (by kernel_rfl) (by kernel_rfl) (fun _ _ _ h => h) (Or.inl ⟨by rfl, ?y1f⟩) hHeld ?r1f
            case y1f => (intro w2 hSw; have qa : ∀ j, w2.cell? ⟨w.heap.size, j, none⟩ = _ := fun j => (hSw.cell (p := ⟨w.heap.size, j, none⟩) lx).trans (ca j); go_simp; try rfl)
            simp only [Act.put, List.setIfInBounds_toArray, List.set_cons_zero, List.set_cons_succ]
            refine wpAnyH_take (i := 2) (v := ?_) rfl (by kernel_rfl) (by kernel_rfl) (by kernel_rfl) (fun _ _ _ h => h) (Or.inl ⟨by rfl, ?y2f⟩) hHeld ?r2f
            case y2f => (intro w2 hSw; go_simp; try rfl)
            simp only [Act.put, List.setIfInBounds_toArray, List.set_cons_zero, List.set_cons_succ]
            refine wpAnyH_take (i := 3) (v := ?_) rfl (by kernel_rfl) (by kernel_rfl) (by kernel_rfl) (fun _ _ _ h => h) (Or.inl ⟨by rfl, ?y3f⟩) hHeld ?r3f
            case y3f => (intro w2 hSw; go_simp; try rfl)
            simp only [Act.put, List.setIfInBounds_toArray, List.set_cons_zero, List.set_cons_succ]
            refine wpAnyH_take (i := 4) (v := ?_) rfl (by kernel_rfl) (by kernel_rfl) (by kernel_rfl) (fun _ _ _ h => h) (Or.inl ⟨by rfl, ?y4f⟩) hHeld ?r4f
            case y4f => (intro w2 hSw; have q := LA w2 hSw; go_simp; try rfl)
            simp only [Act.put, List.setIfInBounds_toArray, List.set_cons_zero, List.set_cons_succ]
            refine wpAnyH_take (i := 5) (v := ?_) rfl (by kernel_rfl) (by kernel_rfl) (by kernel_rfl) (fun _ _ _ h => h) (Or.inl ⟨by rfl, ?y5f⟩) hHeld ?r5f
            case y5f => (intro w2 hSw; go_simp; try rfl)
            simp only [Act.put, List.setIfInBounds_toArray, List.set_cons_zero, List.set_cons_succ]
            refine wpAnyH_take (i := 6) (v := ?_) rfl (by kernel_rfl) (by kernel_rfl) (by kernel_rfl) (fun _ _ _ h => h) (Or.inl ⟨by rfl, ?y6f⟩) hHeld ?r6f
            case y6f => (intro w2 hSw; have qb : ∀ j, w2.cell? ⟨w.heap.size + 1, j, none⟩ = _ := fun j => (hSw.cell (p := ⟨w.heap.size + 1, j, none⟩) lx1).trans (cb j); go_simp; try rfl)
            simp only [Act.put, List.setIfInBounds_toArray, List.set_cons_zero, List.set_cons_succ]
            refine wpAnyH_take (i := 7) (v := ?_) rfl (by kernel_rfl) (by kernel_rfl) (by kernel_rfl) (fun _ _ _ h => h) (Or.inl ⟨by rfl, ?y7f⟩) hHeld ?r7f
            case y7f => (intro w2 hSw; go_simp; try rfl)
            simp only [Act.put, List.setIfInBounds_toArray, List.set_cons_zero, List.set_cons_succ]
            refine wpAnyH_take (i := 8) (v := ?_) rfl (by kernel_rfl) (by kernel_rfl) (by kernel_rfl) (fun _ _ _ h => h) (Or.inl ⟨by rfl, ?y8f⟩) hHeld ?r8f
            case y8f => (intro w2 hSw; go_simp; try rfl)
            simp only [Act.put, List.setIfInBounds_toArray, List.set_cons_zero, List.set_cons_succ]
            refine wpAnyH_take (i := 9) (v := ?_) rfl (by kernel_rfl) (by kernel_rfl) (by kernel_rfl) (fun _ _ _ h => h) (Or.inl ⟨by rfl, ?y9f⟩) hHeld ?r9f
            case y9f => (intro w2 hSw; have q := LB w2 hSw; go_simp; try rfl)
            simp only [Act.put, List.setIfInBounds_toArray, List.set_cons_zero, List.set_cons_succ]
            refine wpAnyH_take (i := 10) (v := ?_) rfl (by kernel_rfl) (by kernel_rfl) (by kernel_rfl) (fun _ _ _ h => h) (Or.inl ⟨by rfl, ?y10f⟩) hHeld ?r10f
            case y10f => (intro w2 hSw; go_simp; try rfl)
            simp only [Act.put, List.setIfInBounds_toArray, List.set_cons_zero, List.set_cons_succ]
            refine wpAnyH_ready (rs := [11]) (by kernel_rfl) (by simp) ?_
            refine .cons rfl (fun K hK => ?_) .nil
            go_simp
            go_wp2_with (go_at_call 9; refine CC.out.mono ?_; rintro e w5 ⟨rfl, hb5⟩)
            have b5 : Below wr.heap.size wr w5 := ((Below.refl _ _).drew).trans hb5
            refine hK.out _ _ b5 (fun _ => ?_)
            clear hK K
            refine wpAnyH_ready (rs := [12]) (by kernel_rfl) (by simp) ?_
            refine .cons rfl (fun K hK => ?_) .nil
            go_simp
            refine hK.out _ _ b5 (fun _ => ?_)
            clear hK K
            refine wpAnyH_done (by kernel_rfl) ?_ _
            have b6 : Below W2.heap.size W2 w5 := hbx.trans (b5.mono hsx)
            go_wp2_with fail
            go_roundg g'
            case measure => omega
            case rel => exact ⟨i + 1, by simp, by omega, b6⟩
          · have d0 : decide ((i : Int) < (len : Int)) = false := by simp; omega
            clear IH KA KB ra rb
            go_wp2
            go_ret
            exact ⟨rfl, b2.trans (hbx.mono (by omega))⟩
end Go.Proofs.YtllhcjmabhempaaDoor

namespace Go.Proofs.YtllhcjmabhempaaDoor
set_option linter.unusedVariables false
set_option linter.unusedSimpArgs false
open Go.ChangeShapes Go.WideShapes Go.ChangeAt Go.RowKit



def shT : Bs := [49, 32, 43, 32, 120]
def shM : Nd := .mk 37 [43] 0 false [.mk 24 [] 1 false [] 0, .mk 31 [120] 0 false [] 4] 2
theorem shT_ans : ansP .expr shT = (shM, 0, 0) := by kernel_rfl
set_option maxHeartbeats 4000000 in
set_option maxRecDepth 20000 in
theorem shownT (w : World) (V : Vars w) : Calls Tryd.prog 5 #[] w fun e w' => e = .returned (.bool true) ∧ Below w.heap.size w w' := by
  have EX : Hid (Calls Tryd.prog 11 #[.string (bs shT)] w (PostA w (shM, 0, 0))) := by
    have := expr_any shT w V
    rwa [shT_ans] at this
  clear V
  have xb : ((bs [43]).toList == [43]) = true := by kernel_rfl
  have xc : (bs [43]).toList = [43] := by kernel_rfl
  go_enter Tryd.func5, Tryd.ntmps5
  go_wp2_with (go_at_call 11; refine EX.out.mono ?_; rintro e w1 ⟨c, rfl, nd, hb⟩; have hs := hb.size; have hc : ∃ a m, c = ⟨37, bs [43], 0, false, a, 2, m, 2⟩ := (by cases nd; exact ⟨_, _, rfl⟩); obtain ⟨a, m, rfl⟩ := hc)
  go_ret
  exact ⟨rfl, by go_grown⟩
end Go.Proofs.YtllhcjmabhempaaDoor

namespace Go.Proofs.YtllhcjmabhempaaDoor
set_option linter.unusedVariables false
set_option linter.unusedSimpArgs false
open Go.RowKit

/-- What may stand behind a token for another text: nothing, a blank, an opening bracket, or the byte that stands there. -/
def Nxt (t Y : Bs) : Prop := Y = [] ∨ (∃ r, Y = 32 :: r) ∨ (∃ r, Y = 40 :: r) ∨ ∃ c r s, Y = c :: r ∧ t = c :: s
theorem tw_cut (p : UInt8 → Bool) (h32 : p 32 = false) (h40 : p 40 = false) : ∀ (l Y : Bs), Nxt (l.drop (l.takeWhile p).length) Y → (l.takeWhile p ++ Y).takeWhile p = l.takeWhile p
  | [], Y, h => by
    rcases h with rfl | ⟨r, rfl⟩ | ⟨r, rfl⟩ | ⟨c, r, s, rfl, e⟩
    · rfl
    · simp [h32]
    · simp [h40]
    · cases e
  | c :: r, Y, h => by
    cases hc : p c
    · have e0 : (c :: r).takeWhile p = [] := by simp [hc]
      rw [e0] at h ⊢
      rcases h with rfl | ⟨r, rfl⟩ | ⟨r, rfl⟩ | ⟨c2, r2, s, rfl, e⟩
      · rfl
      · simp [h32]
      · simp [h40]
      · injection e with e _
        subst e
        simp [hc]
    · have e1 : (c :: r).takeWhile p = c :: r.takeWhile p := by simp [hc]
      rw [e1] at h ⊢
      have ih := tw_cut p h32 h40 r Y (by simpa using h)
      simp [hc, ih]
theorem quoP_cut : ∀ (k : Nat) (l : Bs) (n : Nat) (Y : Bs), quoP k l = some n → quoP k (l.take (n - k + 1) ++ Y) = some n
  | _, [], _, _, h => by simp [quoP] at h
  | k, c :: r, n, Y, h => by
    have hk := (quoP_le _ _ _ h).1
    rw [List.take_succ_cons, List.cons_append, quoP]
    rw [quoP] at h
    by_cases h1 : c = 34
    · rw [if_pos h1] at h ⊢; exact h
    · rw [if_neg h1] at h ⊢
      by_cases h2 : c.toNat < 32 ∨ 126 < c.toNat ∨ k = 200
      · rw [if_pos h2] at h; cases h
      · rw [if_neg h2] at h ⊢
        have h3 := (quoP_le _ _ _ h).1
        have := quoP_cut (k + 1) r n Y h
        rwa [show n - k = n - (k + 1) + 1 by omega]
/-- The signs of two bytes, of one. -/
def sg2 : List Bs := [[46, 46], [58, 61], [60, 61], [62, 61]]
def sg1 : List Bs := [[43], [45], [42], [47], [126], [38], [46], [44], [59], [124], [40], [41], [91], [93], [123], [125], [58], [94], [61], [35], [60], [62]]
theorem signP_two (l : Bs) : signP l = signT ((sg2.find? fun s => s.isPrefixOf l).or (sg1.find? fun s => s.isPrefixOf l)) := by
  rw [← List.find?_append]; rfl
theorem sg1_head (c : UInt8) (x y : Bs) : (sg1.find? fun s => s.isPrefixOf (c :: x)) = sg1.find? fun s => s.isPrefixOf (c :: y) := by
  simp [sg1, List.find?, List.isPrefixOf]
theorem sg2_two (c b : UInt8) (x y : Bs) : (sg2.find? fun s => s.isPrefixOf (c :: b :: x)) = sg2.find? fun s => s.isPrefixOf (c :: b :: y) := by
  simp [sg2, List.find?, List.isPrefixOf]
theorem sg2_one (c : UInt8) : (sg2.find? fun s => s.isPrefixOf [c]) = none := by
  simp [sg2, List.find?, List.isPrefixOf]
theorem sg2_blk (c : UInt8) (x : Bs) : (sg2.find? fun s => s.isPrefixOf (c :: 32 :: x)) = none ∧ (sg2.find? fun s => s.isPrefixOf (c :: 40 :: x)) = none := by
  simp [sg2, List.find?, List.isPrefixOf]
theorem sg_len : (∀ s ∈ sg2, s.length = 2) ∧ ∀ s ∈ sg1, s.length = 1 := by decide
theorem signP_cut {c : UInt8} {t Y : Bs} (h : (signP (c :: t)).e = 0) (hY : Nxt ((c :: t).drop (signP (c :: t)).len) Y) : signP ((c :: t).take (signP (c :: t)).len ++ Y) = signP (c :: t) := by
  rw [signP_two (c :: t)] at h hY ⊢
  cases h2 : sg2.find? fun s => s.isPrefixOf (c :: t) with
  | some s =>
    rw [h2] at hY
    have hs : s.length = 2 := sg_len.1 s (List.mem_of_find?_eq_some h2)
    have hp : s.isPrefixOf (c :: t) = true := by simpa using List.find?_some h2
    obtain ⟨b, r, rfl⟩ : ∃ b r, t = b :: r := by
      cases t with
      | nil => rw [sg2_one] at h2; cases h2
      | cons b r => exact ⟨b, r, rfl⟩
    have e1 : (signT ((some s).or (sg1.find? fun s => s.isPrefixOf (c :: b :: r)))).len = 2 := hs
    rw [e1, signP_two]
    show signT ((sg2.find? fun s => s.isPrefixOf (c :: b :: Y)).or _) = _
    rw [sg2_two c b Y r, h2]
    rfl
  | none =>
    rw [h2] at hY h
    simp only [Option.none_or] at hY h ⊢
    cases h1 : sg1.find? fun s => s.isPrefixOf (c :: t) with
    | none => rw [h1] at h; simp [signT, Rd.bad] at h
    | some s =>
      rw [h1] at hY
      have hs : s.length = 1 := sg_len.2 s (List.mem_of_find?_eq_some h1)
      have e1 : (signT (some s)).len = 1 := hs
      rw [e1] at hY ⊢
      rw [signP_two]
      show signT ((sg2.find? fun s => s.isPrefixOf (c :: Y)).or (sg1.find? fun s => s.isPrefixOf (c :: Y))) = _
      rw [sg1_head c Y t, h1]
      have e2 : (sg2.find? fun s => s.isPrefixOf (c :: Y)) = none := by
        rcases hY with rfl | ⟨r, rfl⟩ | ⟨r, rfl⟩ | ⟨b, r, s', rfl, e⟩
        · exact sg2_one c
        · exact (sg2_blk c r).1
        · exact (sg2_blk c r).2
        · have e : t = b :: s' := e
          subst e
          rw [sg2_two c b r s']; exact h2
      rw [e2]
      rfl
theorem take_tw (p : UInt8 → Bool) : ∀ l : Bs, l.take (l.takeWhile p).length = l.takeWhile p
  | [] => rfl
  | c :: r => by
    cases h : p c
    · simp [h]
    · simp [h, take_tw p r]
theorem opens_cut {c : UInt8} {t Y : Bs} (n : Nat) (hn : 1 ≤ n) (h : opens (c :: t) = false) (hY : Nxt ((c :: t).drop n) Y) : opens ((c :: t).take n ++ Y) = false := by
  obtain ⟨n, rfl⟩ : ∃ m, n = m + 1 := ⟨n - 1, by omega⟩
  rw [List.take_succ_cons, List.drop_succ_cons] at *
  cases n with
  | zero =>
    simp only [List.take_zero, List.cons_append, List.nil_append, List.drop_zero] at hY ⊢
    rcases hY with rfl | ⟨r, rfl⟩ | ⟨r, rfl⟩ | ⟨b, r, s', rfl, rfl⟩
    · rfl
    · simp [opens]
    · simp [opens]
    · simpa [opens] using h
  | succ n =>
    cases t with
    | nil =>
      simp only [List.take_nil, List.nil_append, List.drop_nil, List.cons_append] at hY ⊢
      rcases hY with rfl | ⟨r, rfl⟩ | ⟨r, rfl⟩ | ⟨b, r, s', rfl, e⟩
      · rfl
      · simp [opens]
      · simp [opens]
      · cases e
    | cons b r =>
      simp only [List.take_succ_cons, List.cons_append]
      simpa [opens] using h
theorem numT_len {k : Int} {f : Int → Int} {n : Nat} {o : Option Int} (h : (numT k f n o).e = 0) : (numT k f n o).len = n := by
  cases o with
  | none => simp [numT, Rd.bad] at h
  | some v => rfl
/-- A token and what may stand behind it. -/
theorem first_cut {c : UInt8} {t Y : Bs} (h : (firstP (c :: t)).e = 0) (hY : Nxt ((c :: t).drop (firstP (c :: t)).len) Y) : firstP ((c :: t).take (firstP (c :: t)).len ++ Y) = firstP (c :: t) := by
  have h1 := first_len h
  have ho : opens (c :: t) = false := by
    cases ho : opens (c :: t)
    · rfl
    · simp [firstP, firstC, ho, Rd.bad] at h
  have ho2 := opens_cut _ h1.1 ho hY
  obtain ⟨n, hn⟩ : ∃ m, (firstP (c :: t)).len = m + 1 := ⟨(firstP (c :: t)).len - 1, by omega⟩
  have hw32 : wch 32 = false := by decide
  have hw40 : wch 40 = false := by decide
  have e0 : firstP (c :: t) = if lett c then nameP (wordL (c :: t)) else if dig c then numP (wordL (c :: t)) else if c = 34 then quotedP (c :: t) else signP (c :: t) := by
    simp only [firstP, firstC, ho, Bool.false_eq_true, if_false]
  have e1 : firstP ((c :: t).take (firstP (c :: t)).len ++ Y) = if lett c then nameP (wordL ((c :: t).take (firstP (c :: t)).len ++ Y)) else if dig c then numP (wordL ((c :: t).take (firstP (c :: t)).len ++ Y)) else if c = 34 then quotedP ((c :: t).take (firstP (c :: t)).len ++ Y) else signP ((c :: t).take (firstP (c :: t)).len ++ Y) := by
    rw [hn] at ho2 ⊢
    rw [List.take_succ_cons, List.cons_append] at ho2 ⊢
    simp only [firstP, firstC, ho2, Bool.false_eq_true, if_false]
  rw [e1]
  by_cases k1 : lett c
  · rw [if_pos k1] at e0 ⊢
    rw [e0] at h hY ⊢
    have hl : (nameP (wordL (c :: t))).len = (wordL (c :: t)).length := nameP_len _ h
    rw [hl] at hY ⊢
    have := tw_cut wch hw32 hw40 (c :: t) Y hY
    unfold wordL at *
    rw [take_tw, this]
  · rw [if_neg k1] at e0 ⊢
    by_cases k2 : dig c
    · rw [if_pos k2] at e0 ⊢
      rw [e0] at h hY ⊢
      have hl : (numP (wordL (c :: t))).len = (wordL (c :: t)).length := by
        unfold numP at h ⊢
        by_cases g1 : (wordL (c :: t)).getLast? = some 72
        · rw [if_pos g1] at h ⊢; exact numT_len h
        · rw [if_neg g1] at h ⊢
          by_cases g2 : (wordL (c :: t)).getLast? = some 88
          · rw [if_pos g2] at h ⊢; exact numT_len h
          · rw [if_neg g2] at h ⊢; exact numT_len h
      rw [hl] at hY ⊢
      have := tw_cut wch hw32 hw40 (c :: t) Y hY
      unfold wordL at *
      rw [take_tw, this]
    · rw [if_neg k2] at e0 ⊢
      by_cases k3 : c = 34
      · rw [if_pos k3] at e0 ⊢
        rw [e0] at h hY ⊢
        unfold quotedP at h hY ⊢
        simp only [List.tail_cons] at h hY ⊢
        cases hq : quoP 0 t with
        | none => rw [hq] at h; simp [quoT, Rd.bad] at h
        | some k =>
          have hk := (quoP_le _ _ _ hq).2
          have e2 : (quoT t (some k)).len = k + 1 + 1 := rfl
          rw [e2, List.take_succ_cons, List.cons_append, List.tail_cons]
          have := quoP_cut 0 t k Y hq
          rw [Nat.sub_zero] at this
          rw [this]
          simp only [quoT]
          rw [List.take_append_of_le_length (by rw [List.length_take]; omega), List.take_take, Nat.min_eq_left (by omega)]
      · rw [if_neg k3] at e0 ⊢
        rw [e0] at h hY ⊢
        exact signP_cut h hY
end Go.Proofs.YtllhcjmabhempaaDoor

namespace Go.Proofs.YtllhcjmabhempaaDoor
set_option linter.unusedVariables false
set_option linter.unusedSimpArgs false
open Go.RowKit

/-- A text that is skipped whole. -/
theorem skip_all (w : Bs) : ∀ u : Bs, skip u = u.length → skip (u ++ w) = u.length + skip w := by
  intro u
  refine skip_ind (P := fun u => skip u = u.length → skip (u ++ w) = u.length + skip w) ?_ ?_ ?_ ?_ u.length u (Nat.le_refl _)
  · intro _; simp
  · intro c r hc ih h
    rw [skip_blk hc, List.length_cons] at h
    rw [List.cons_append, skip_blk hc, ih (by omega), List.length_cons]; omega
  · intro l hn ih h
    have hle := remN_le l
    rw [skip_rem hn] at h
    rw [skip_rem (l := l ++ w) (by rw [remN_app _ hn]; exact hn), remN_app _ hn, List.drop_append_of_le_length hle, ih (by rw [List.length_drop]; omega), List.length_drop]
    omega
  · intro c r hc hn h
    rw [skip_stop hc hn] at h
    simp at h
/-- A gap: it is skipped whole, and begins with a blank or a remark, if it is not empty. -/
def Gap (g : Bs) : Prop := skip g = g.length ∧ (g = [] ∨ (∃ r, g = 32 :: r) ∨ ∃ r, g = 40 :: r)
/-- The tokens of a text, each with a gap ahead. -/
def sprF : Nat → List Bs → Bs → Bs
  | 0, _, _ => []
  | f + 1, gs, l =>
    if (firstP (l.drop (skip l))).k = 0 then []
    else gs.headD [] ++ ((l.drop (skip l)).take (firstP (l.drop (skip l))).len ++ ((l.drop (skip l + (firstP (l.drop (skip l))).len)).take (skip (l.drop (skip l + (firstP (l.drop (skip l))).len))) ++ sprF f gs.tail (l.drop (skip l + (firstP (l.drop (skip l))).len))))
theorem spr_read : ∀ (f p q : Nat) (gs : List Bs) (l : Bs), l.length < f → (∀ g ∈ gs, Gap g) → (goX p l).e = 0 →
    (goX q (sprF f gs l)).e = 0 ∧ TksL false TT (goX p l).ts (goX q (sprF f gs l)).ts ∧ (sprF f gs l = [] ∨ (∃ r, sprF f gs l = 32 :: r) ∨ (∃ r, sprF f gs l = 40 :: r) ∨ ∃ c r s, sprF f gs l = c :: r ∧ l.drop (skip l) = c :: s) := by
  intro f
  induction f with
  | zero => intro p q gs l hl; omega
  | succ f ih =>
    intro p q gs l hl hg h
    obtain ⟨r, hr⟩ : ∃ r, firstP (l.drop (skip l)) = r := ⟨_, rfl⟩
    rw [sprF]
    by_cases he : r.e = 0
    · by_cases hk : r.k = 0
      · rw [if_pos (by rw [hr]; exact hk), goX_end p l (by rw [hr]; exact he) (by rw [hr]; exact hk), goX_end q [] rfl rfl]
        exact ⟨rfl, .cons ⟨trivial, .inl ⟨rfl, rfl, rfl⟩⟩ .nil, .inl rfl⟩
      · rw [if_neg (by rw [hr]; exact hk), hr]
        obtain ⟨g1, g2, g3⟩ := goX_step p l r hr he hk
        have hne : l.drop (skip l) ≠ [] := fun e => hk (by rw [← hr]; exact (first_end (by rw [hr]; exact he)).2 e)
        obtain ⟨c, t, hct⟩ : ∃ c t, l.drop (skip l) = c :: t := by
          cases hd : l.drop (skip l) with
          | nil => exact absurd hd hne
          | cons c t => exact ⟨c, t, rfl⟩
        have e1 : (goX (p + skip l + r.len) (l.drop (skip l + r.len))).e = 0 := by
          rw [g1] at h
          unfold Al.pre at h
          split at h
          · assumption
          · exact h
        have hgt : ∀ g ∈ gs.tail, Gap g := fun g hgm => hg g (List.mem_of_mem_tail hgm)
        have hgh : Gap (gs.headD []) := by
          cases gs with
          | nil => exact ⟨rfl, .inl rfl⟩
          | cons g _ => exact hg g (by simp)
        have hdl : l.drop (skip l + r.len) = (c :: t).drop r.len := by rw [← List.drop_drop, hct]
        rw [hct] at hr ⊢
        generalize gs.headD [] = gp at hgh ⊢
        generalize hl' : l.drop (skip l + r.len) = l' at e1 hdl ⊢
        have hlen : l'.length < f := by rw [← hl', List.length_drop]; omega
        -- the gap that stood there, and what follows it
        have hG : skip (l'.take (skip l')) = (l'.take (skip l')).length := by
          rw [skip_take l' _ (Nat.le_refl _), List.length_take]; have := skip_le l'; omega
        obtain ⟨i1, i2, i3⟩ := ih (p + skip l + r.len) (q + gp.length + r.len + (l'.take (skip l')).length) gs.tail l' hlen hgt e1
        generalize sprF f gs.tail l' = T at i1 i2 i3 ⊢
        have hY : Nxt ((c :: t).drop r.len) (l'.take (skip l') ++ T) := by
          rw [← hdl]
          by_cases hs : skip l' = 0
          · rw [hs] at i3 ⊢
            simp only [List.take_zero, List.nil_append, List.drop_zero] at i3 ⊢
            rcases i3 with h | h | h | ⟨c2, r2, s2, h3, h4⟩
            · exact .inl h
            · exact .inr (.inl h)
            · exact .inr (.inr (.inl h))
            · exact .inr (.inr (.inr ⟨c2, r2, s2, h3, h4⟩))
          · have := skip_le l'
            cases l' with
            | nil => simp [skip_nil] at hs
            | cons c2 s2 =>
              obtain ⟨k, hk2⟩ : ∃ k, skip (c2 :: s2) = k + 1 := ⟨skip (c2 :: s2) - 1, by omega⟩
              rw [hk2, List.take_succ_cons, List.cons_append]
              exact .inr (.inr (.inr ⟨c2, _, s2, rfl, rfl⟩))
        have hfe : (firstP (c :: t)).e = 0 := by rw [hr]; exact he
        have fc := first_cut (Y := l'.take (skip l') ++ T) hfe (by rw [hr]; exact hY)
        rw [hr] at fc
        have ho : opens (c :: t) = false := by
          cases ho : opens (c :: t)
          · rfl
          · simp [firstP, firstC, ho, Rd.bad] at hfe
        have ho2 := opens_cut r.len g2 ho hY
        have hbc : blk c = false := by
          have := (skip_rest l).1
          rw [hct] at this
          cases hb : blk c
          · rfl
          · simp [hb] at this
        obtain ⟨n, hn⟩ : ∃ n, r.len = n + 1 := ⟨r.len - 1, by omega⟩
        have hzl : ((c :: t).take r.len).length = r.len := by
          have h5 := congrArg List.length hct
          rw [List.length_drop] at h5
          rw [List.length_take, ← h5]; omega
        have hz0 : skip ((c :: t).take r.len ++ (l'.take (skip l') ++ T)) = 0 := by
          rw [hn, List.take_succ_cons, List.cons_append] at ho2 ⊢
          exact skip_stop hbc (by unfold remN; rw [ho2]; rfl)
        have sk : skip (gp ++ ((c :: t).take r.len ++ (l'.take (skip l') ++ T))) = gp.length := by rw [skip_all _ _ hgh.1, hz0]; rfl
        have hr2 : firstP ((gp ++ ((c :: t).take r.len ++ (l'.take (skip l') ++ T))).drop (skip (gp ++ ((c :: t).take r.len ++ (l'.take (skip l') ++ T))))) = r := by
          rw [sk, List.drop_left]; exact fc
        obtain ⟨k1, k2, k3⟩ := goX_step q _ r hr2 he hk
        have hR : (gp ++ ((c :: t).take r.len ++ (l'.take (skip l') ++ T))).drop (gp.length + r.len) = l'.take (skip l') ++ T := by
          rw [← List.drop_drop, List.drop_left, List.drop_left' hzl]
        rw [sk, hR] at k1
        have hsame : goX (q + gp.length + r.len) (l'.take (skip l') ++ T) = goX (q + gp.length + r.len + (l'.take (skip l')).length) T := by
          refine goX_same _ _ _ _ (by rw [skip_all _ _ hG]; omega) ?_
          rw [skip_all _ _ hG, ← List.drop_drop, List.drop_left]
        rw [hsame] at k1
        rw [k1, g1]
        rw [hl']
        unfold Al.pre
        rw [if_pos i1, if_pos e1]
        refine ⟨i1, .cons ⟨trivial, .inl ⟨rfl, rfl, rfl⟩⟩ i2, ?_⟩
        rcases hgh.2 with h | ⟨x, h⟩ | ⟨x, h⟩
        · rw [h, List.nil_append, hn, List.take_succ_cons, List.cons_append]
          exact .inr (.inr (.inr ⟨c, _, t, rfl, rfl⟩))
        · rw [h, List.cons_append]; exact .inr (.inl ⟨_, rfl⟩)
        · rw [h, List.cons_append]; exact .inr (.inr (.inl ⟨_, rfl⟩))
    · rw [goX_bad p l r.e (by rw [hr]) he] at h
      exact absurd h he
/-- Pieces of a text between places, each with a gap ahead. -/
def sprQ (L : Bs) (gap : Nat → Bs) : List Nat → Nat → Bs
  | a :: b :: r, i => gap i ++ ((L.drop a).take (b - a) ++ sprQ L gap (b :: r) (i + 1))
  | _, _ => []
theorem goX_head (p : Nat) (l : Bs) (h : (goX p l).e = 0) : ∃ x r, (goX p l).ts = x :: r ∧ x.p = p + skip l := by
  obtain ⟨r, hr⟩ : ∃ r, firstP (l.drop (skip l)) = r := ⟨_, rfl⟩
  by_cases he : r.e = 0
  · by_cases hk : r.k = 0
    · rw [goX_end p l (by rw [hr]; exact he) (by rw [hr]; exact hk)]; exact ⟨_, _, rfl, rfl⟩
    · obtain ⟨g1, g2, g3⟩ := goX_step p l r hr he hk
      rw [g1] at h ⊢
      unfold Al.pre at h ⊢
      split at h
      · rename_i h1; rw [if_pos h1]; exact ⟨_, _, rfl, rfl⟩
      · rename_i h1; exact absurd h h1
  · rw [goX_bad p l r.e (by rw [hr]) he] at h; exact absurd h he
theorem gaps_tail (gap : Nat → Bs) (i n : Nat) : ((List.range' i (n + 1)).map gap).headD [] = gap i ∧ ((List.range' i (n + 1)).map gap).tail = (List.range' (i + 1) n).map gap := by
  rw [List.range'_succ]; exact ⟨rfl, rfl⟩
/-- The pieces between the tokens' places are the tokens with gaps. -/
theorem spr_same (L : Bs) (gap : Nat → Bs) : ∀ (f p i n : Nat) (l : Bs), l = L.drop p → l.length < f → (goX p l).e = 0 → (goX p l).ts.length ≤ n + 1 → sprQ L gap ((goX p l).ts.map (·.p)) i = sprF f ((List.range' i n).map gap) l := by
  intro f
  induction f with
  | zero => intro p i n l _ hl; omega
  | succ f ih =>
    intro p i n l hL hl h hn
    obtain ⟨r, hr⟩ : ∃ r, firstP (l.drop (skip l)) = r := ⟨_, rfl⟩
    rw [sprF]
    by_cases he : r.e = 0
    · by_cases hk : r.k = 0
      · rw [if_pos (by rw [hr]; exact hk), goX_end p l (by rw [hr]; exact he) (by rw [hr]; exact hk)]; rfl
      · rw [if_neg (by rw [hr]; exact hk), hr]
        obtain ⟨g1, g2, g3⟩ := goX_step p l r hr he hk
        have e1 : (goX (p + skip l + r.len) (l.drop (skip l + r.len))).e = 0 := by
          rw [g1] at h
          unfold Al.pre at h
          split at h
          · assumption
          · exact h
        have e2 : (goX p l).ts = ⟨r.k, r.t, r.n, p + skip l⟩ :: (goX (p + skip l + r.len) (l.drop (skip l + r.len))).ts := by
          rw [g1]; unfold Al.pre; rw [if_pos e1]; rfl
        obtain ⟨x, rs, hx, hxp⟩ := goX_head _ _ e1
        obtain ⟨n, rfl⟩ : ∃ m, n = m + 1 := ⟨n - 1, by rw [e2, hx] at hn; simp at hn; omega⟩
        have I := ih (p + skip l + r.len) (i + 1) n (l.drop (skip l + r.len)) (by rw [hL, List.drop_drop]; congr 1; omega) (by rw [List.length_drop]; omega) e1 (by rw [e2] at hn; simp at hn; omega)
        rw [(gaps_tail gap i n).1, (gaps_tail gap i n).2, ← I, e2, hx]
        simp only [List.map_cons, sprQ]
        congr 1
        rw [← List.append_assoc]
        congr 1
        have e3 : x.p - (p + skip l) = r.len + skip (l.drop (skip l + r.len)) := by omega
        rw [e3, List.take_add, show L.drop (p + skip l) = l.drop (skip l) by rw [hL, List.drop_drop], List.drop_drop]
    · rw [goX_bad p l r.e (by rw [hr]) he] at h
      exact absurd h he
/-- What a loop over the tokens has put together. -/
def outP (L : Bs) (gap : Nat → Bs) (ps : List Nat) : Nat → Bs
  | 0 => []
  | i + 1 => outP L gap ps i ++ (gap i ++ (L.drop (ps.getD i 0)).take (ps.getD (i + 1) 0 - ps.getD i 0))
theorem out_same (L : Bs) (gap : Nat → Bs) (ps : List Nat) : ∀ j, j + 1 ≤ ps.length → outP L gap ps j ++ sprQ L gap (ps.drop j) j = sprQ L gap ps 0 := by
  intro j
  induction j with
  | zero => intro _; rfl
  | succ j ih =>
    intro hj
    rw [← ih (by omega), outP, List.drop_eq_getElem_cons (show j < ps.length by omega), List.drop_eq_getElem_cons (show j + 1 < ps.length by omega), sprQ]
    simp only [List.getD_eq_getElem?_getD, List.getElem?_eq_getElem (show j < ps.length by omega), List.getElem?_eq_getElem (show j + 1 < ps.length by omega), Option.getD_some]
    rw [List.append_assoc, List.append_assoc]
theorem out_whole (L : Bs) (gap : Nat → Bs) (ps : List Nat) (h : ps ≠ []) : outP L gap ps (ps.length - 1) = sprQ L gap ps 0 := by
  have hl := List.length_pos_iff.2 h
  rw [← out_same L gap ps (ps.length - 1) (by omega), List.drop_eq_getElem_cons (show ps.length - 1 < ps.length by omega), List.drop_of_length_le (by omega)]
  simp [sprQ]
end Go.Proofs.YtllhcjmabhempaaDoor

namespace Go.Proofs.YtllhcjmabhempaaDoor
set_option linter.unusedVariables false
set_option linter.unusedSimpArgs false

def KB : Nd → Prop := Kb 1000000
/-- What is read of at most so many tokens: with how many passed, what. -/
def Sz {α : Type} (Q : Nat → α → Prop) (p : Pg α) : Prop := ∀ t a s, GoodT t → t.length ≤ 16385 → exec p t = .ok a s → ∃ c, s.length + c = t.length ∧ Q c a
section
variable {α β : Type} {Q : Nat → α → Prop} {X : Tok → Pg α} {Y Z : Pg α} {s : Bs} {k : Int} {o : Nat}
theorem Sz.mono {Q2 : Nat → α → Prop} {p : Pg α} (h : Sz Q p) (hq : ∀ c a, c ≤ 16385 → Q c a → Q2 c a) : Sz Q2 p := fun t a s hg hl e => by
  obtain ⟨c, h1, h2⟩ := h t a s hg hl e
  exact ⟨c, h1, hq c a (by omega) h2⟩
theorem Sz.ret {a : α} (h : Q 0 a) : Sz Q (.ret a) := fun t b s _ _ e => by cases e; exact ⟨0, by omega, h⟩
theorem Sz.fail (e : Int) : Sz Q (.fail e) := fun t b s _ _ h => by cases h
theorem Sz.out : Sz Q (.out) := fun t b s _ _ h => by cases h
theorem Sz.look {k : Tok → Pg α} (h : ∀ x, Sz Q (k x)) : Sz Q (.look k) := fun t a s hg hl e => h _ t a s hg hl e
theorem Sz.len {k : Nat → Pg α} (h : ∀ n, Sz Q (k n)) : Sz Q (.len k) := fun t a s hg hl e => h _ t a s hg hl e
theorem Sz.eat {c : Tok → Bool} (hc : ∀ x, c x = true → x.k ≠ 0) (hX : ∀ x, Sz (fun c a => Q (1 + c) a) (X x)) (hY : Sz Q Y) : Sz Q (.eat c X Y) := fun t a s hg hl e => by
  simp only [exec] at e
  split at e
  · rename_i h
    have hs := hg.tail (hc _ h)
    have hp := List.length_pos_iff.2 hg.1
    obtain ⟨c, h1, h2⟩ := hX _ _ a s (hg.sf hs) (by simp; omega) e
    exact ⟨1 + c, by simp at h1; omega, h2⟩
  · exact hY t a s hg hl e
theorem Sz.eatW (hs : s ≠ []) (hX : ∀ x, Sz (fun c a => Q (1 + c) a) (X x)) (hY : Sz Q Y) : Sz Q (eatW s X Y) := .eat (fun x h => wdT_kind hs (by simpa [isW] using h)) hX hY
theorem Sz.eatK (hk : k ≠ 0) (hX : ∀ x, Sz (fun c a => Q (1 + c) a) (X x)) (hY : Sz Q Y) : Sz Q (eatK k X Y) := .eat (fun x h => by simp at h; rw [h]; exact hk) hX hY
theorem Sz.seeW (hZ : Sz Q Z) (hY : Sz Q Y) : Sz Q (seeW s Z Y) := .look fun x => by split; exact hZ; exact hY
theorem Sz.seeK (hZ : Sz Q Z) (hY : Sz Q Y) : Sz Q (seeK k Z Y) := .look fun x => by split; exact hZ; exact hY
theorem Sz.opn (hs : s ≠ []) (hX : ∀ x, Sz (fun c a => Q (1 + c) a) (X x)) (hY : Sz Q Y) : Sz Q (opnP s o X Y) := by
  unfold opnP
  split
  · exact .look fun x => by split; exact .fail _; exact hY
  · exact .eatW hs hX hY
theorem Sz.bind {Q2 : Nat → β → Prop} {p : Pg α} {f : α → Pg β} (ho : OkP p) (hp : Sz Q p) (hf : ∀ a c, c ≤ 16385 → Q c a → Sz (fun d b => Q2 (c + d) b) (f a)) : Sz Q2 (p.bind f) := fun t b s hg hl e => by
  rw [exec_bind] at e
  have h2 := ho.esc t hg
  cases he : exec p t with
  | bad q er => rw [he] at e; cases e
  | ok a r =>
    rw [he] at e h2
    obtain ⟨c, h3, h4⟩ := hp t a r hg hl he
    obtain ⟨d, h5, h6⟩ := hf a c (by omega) h4 r b s (hg.sf h2) (by omega) e
    exact ⟨c + d, by omega, h6⟩
theorem Sz.must (hs : s ≠ []) : Sz (fun c _ => c = 1) (mustP s) := .eatW hs (fun _ => .ret rfl) (.fail _)
theorem Sz.name : Sz (fun c _ => c = 1) nameQ := .eatK (by decide) (fun _ => .ret rfl) (.fail _)
end
def KN : Nat → Nd → Prop := fun _ n => KB n
/-- A row of trees, no longer than so much and twice the tokens passed. -/
def LN (m : Nat) : Nat → Nd → Prop := fun c n => (∀ x ∈ n.kids, KB x) ∧ n.kids.length ≤ m + 2 * c
theorem sz_expr (o : Nat) : Sz KN (exprQ o) := fun t a s hg hl e => by
  rw [exec_expr] at e
  obtain ⟨h1, h2, _⟩ := run_small 1000000 (by decide) _ _ _ _ _ _ e trivial (by simp only [acL]; omega)
  exact ⟨t.length - s.length, by omega, h1⟩
theorem sz_desig (o : Nat) : Sz KN (desigQ o) := fun t a s hg hl e => by
  rw [exec_desig] at e
  obtain ⟨h1, h2, _⟩ := run_small 1000000 (by decide) _ _ _ _ _ _ e trivial (by simp only [acL]; omega)
  exact ⟨t.length - s.length, by omega, h1⟩
theorem sz_named (k : Int) : Sz KN (namedQ k) := .bind .name .name fun _ _ _ _ => .ret (Kb.zero _ _ _ _ _)
theorem sz_marked (k : Int) : Sz KN (markedQ k) := .bind .name .name fun _ _ _ _ => .eatW (by decide) (fun _ => .ret (Kb.zero _ _ _ _ _)) (.ret (Kb.zero _ _ _ _ _))
theorem all_app {l : List Nd} {x : Nd} (h : ∀ y ∈ l, KB y) (hx : KB x) : ∀ y ∈ l ++ [x], KB y := fun y hy => by
  rcases List.mem_append.1 hy with h1 | h1
  · exact h y h1
  · rw [List.mem_singleton.1 h1]; exact hx
theorem all_two {l m : List Nd} (h : ∀ y ∈ l, KB y) (hm : ∀ y ∈ m, KB y) : ∀ y ∈ l ++ m, KB y := fun y hy => (List.mem_append.1 hy).elim (h y) (hm y)
theorem sz_row {s : Bs} (hs : s ≠ []) {part : Pg Nd} (ho : OkP part) (h : Sz KN part) : ∀ f acc, (∀ y ∈ acc, KB y) → Sz (LN (acc.length + 1)) (rowQ s part f acc) := by
  intro f
  induction f with
  | zero => intro acc _; exact .out
  | succ f ih =>
    intro acc ha
    refine .bind ho h fun x c _ hx => .eatW hs (fun _ => (ih (acc ++ [x]) (all_app ha hx)).mono fun d a _ h => ⟨h.1, ?_⟩) (.ret ⟨all_app ha hx, ?_⟩)
    · have := h.2; simp at this; omega
    · simp [lst, Nd.kids]
theorem sz_many {part : Pg Nd} (ho : OkP part) (h : Sz KN part) : ∀ f acc, (∀ y ∈ acc, KB y) → Sz (LN acc.length) (manyQ part f acc) := by
  intro f
  induction f with
  | zero => intro acc _; exact .out
  | succ f ih =>
    intro acc ha
    refine .seeK (.bind ho h fun x c _ hx => .bind (.must (by decide)) (.must (by decide)) fun _ d _ hd => (ih (acc ++ [x]) (all_app ha hx)).mono fun d' a _ h => ⟨h.1, ?_⟩) (.ret ⟨ha, ?_⟩)
    · have := h.2; simp at this; omega
    · simp [lst, Nd.kids]
theorem sz_sect {key : Bs} (hk : key ≠ []) {part : Pg Nd} (ho : OkP part) (h : Sz KN part) : Sz (LN 0) (sectQ key part) := .len fun n => .eatW hk (fun _ => (sz_many ho h _ [] (by simp)).mono fun d a _ h => ⟨h.1, by have := h.2; simp at this; omega⟩) (.ret ⟨by simp [lst, Nd.kids], by simp [lst, Nd.kids]⟩)
theorem kb_of {m c : Nat} {n : Nd} (h : LN m c n) (hm : m + 2 * c ≤ 1000000) (k : Int) (t : Bs) (v : Int) (f : Bool) (p : Nat) : KB (.mk k t v f n.kids p) := .mk _ _ _ _ _ _ (by have := h.2; omega) h.1
theorem blk_kb {m c p : Nat} {l : Nd} (h : LN m c l) (hm : m + 2 * c ≤ 1000000) : KB (blkN p l) := kb_of h hm _ _ _ _ _
theorem kb1 {x : Nd} (h : KB x) (k : Int) (t : Bs) (n : Int) (f : Bool) (p : Nat) : KB (.mk k t n f [x] p) := Kb.one (by decide) h _ _ _ _ _
theorem kb2 {x y : Nd} (h : KB x) (h2 : KB y) (k : Int) (t : Bs) (n : Int) (f : Bool) (p : Nat) : KB (.mk k t n f [x, y] p) := Kb.two (by decide) h h2 _ _ _ _ _
def NsB : NS → Prop
  | .block acc => ∀ y ∈ acc, KB y
  | .br s acc => s ≠ [] ∧ ∀ y ∈ acc, KB y
  | .stat => True
def NsQ : NS → Nat → Nd → Prop
  | .block acc => LN (acc.length + 1)
  | .br _ acc => LN (acc.length + 2)
  | .stat => KN
set_option maxHeartbeats 2000000 in
theorem sz_st : ∀ (f : Nat) (ns : NS) (o : Nat), NsB ns → Sz (NsQ ns) (stQ f ns o) := by
  intro f
  induction f with
  | zero => intro ns o _; cases ns <;> exact .out
  | succ f ih =>
    intro ns o hn
    have ib : ∀ acc o, (∀ y ∈ acc, KB y) → Sz (LN (acc.length + 1)) (stQ f (.block acc) o) := fun acc o h => ih (.block acc) o h
    have i0 : ∀ o, Sz (LN 1) (stQ f (.block []) o) := fun o => ih (.block []) o (by intro y hy; cases hy)
    have ob := fun acc o => ok_st f (.block acc) o trivial
    cases ns with
    | block acc =>
      refine .look fun z => ?_
      split
      · refine .bind (ok_st f .stat o trivial) (ih .stat o trivial) fun x c _ hx => .eatW (by decide) (fun _ => (ib (acc ++ [x]) o (all_app hn hx)).mono fun d a _ h => ⟨h.1, ?_⟩) (.ret ⟨all_app hn hx, ?_⟩)
        · have := h.2; simp at this; omega
        · simp [lst, Nd.kids]
      · refine .eatW (by decide) (fun _ => (ib acc o hn).mono fun d a _ h => ⟨h.1, ?_⟩) (.ret ⟨hn, ?_⟩)
        · have := h.2; omega
        · simp [lst, Nd.kids]
    | br s acc =>
      refine .bind (ok_expr o) (sz_expr o) fun c n1 h1 hc => .bind (.must hn.1) (.must hn.1) fun _ n2 _ h2 => .look fun z => .bind (ob _ _) (i0 o) fun l n3 h3 hl => ?_
      have hb : KB (blkN z.p l) := blk_kb hl (by omega)
      have hac : ∀ y ∈ acc ++ [c, blkN z.p l], KB y := all_two hn.2 (by intro y hy; simp at hy; rcases hy with rfl | rfl; exact hc; exact hb)
      refine .eatW (by decide) (fun _ => (ih (.br s (acc ++ [c, blkN z.p l])) o ⟨hn.1, hac⟩).mono fun d a _ h => ⟨h.1, ?_⟩) (.ret ⟨hac, ?_⟩)
      · have := h.2; simp at this; omega
      · simp [lst, Nd.kids]
    | stat =>
      have r1 : Sz (LN 2) (stQ f (.br [84, 72, 69, 78] []) (o + 1)) := ih (.br [84, 72, 69, 78] []) (o + 1) ⟨by decide, by intro y hy; cases hy⟩
      have r2 : Sz (LN 2) (stQ f (.br [68, 79] []) (o + 1)) := ih (.br [68, 79] []) (o + 1) ⟨by decide, by intro y hy; cases hy⟩
      have q1 := ok_st f (.br [84, 72, 69, 78] []) (o + 1) (by show _ ≠ _; decide)
      have q2 := ok_st f (.br [68, 79] []) (o + 1) (by show _ ≠ _; decide)
      simp only [stQ]
      refine .look fun z => .seeK (.bind (ok_desig _) (sz_desig _) fun d _ _ hd => .eatW (by decide) (fun _ => .bind (ok_expr _) (sz_expr _) fun y _ _ hy => .ret (kb2 hd hy _ _ _ _ _)) (.ret (kb1 hd _ _ _ _ _))) ?_
      refine .opn (by decide) (fun x => .bind q1 r1 fun l n1 h1 hl => .bind (.eatW (by decide) (fun _ => .look fun _ => .bind (ob _ _) fun _ => .ret _) (.ret _)) (Q := fun c n => (∀ x ∈ n.kids, KB x) ∧ n.kids.length ≤ 50000) (.eatW (by decide) (fun _ => .look fun z => .bind (ob _ _) (i0 _) fun y n2 h2 hy => .ret ⟨all_app hl.1 (blk_kb hy (by omega)), ?_⟩) (.ret ⟨hl.1, ?_⟩)) fun l2 _ _ hl2 => .bind (.must (by decide)) (.must (by decide)) fun _ _ _ _ => .ret (.mk _ _ _ _ _ _ (by have := hl2.2; omega) hl2.1)) ?_
      · have := hl.2; simp [lst, Nd.kids] at this ⊢; omega
      · have := hl.2; omega
      refine .opn (by decide) (fun x => .bind q2 r2 fun l n1 h1 hl => .bind (.must (by decide)) (.must (by decide)) fun _ _ _ _ => .ret (kb_of hl (by omega) _ _ _ _ _)) ?_
      refine .opn (by decide) (fun x => .look fun z => .bind (ob _ _) (i0 _) fun l n1 h1 hl => .bind (.must (by decide)) (.must (by decide)) fun _ _ _ _ => .bind (ok_expr _) (sz_expr _) fun y _ _ hy => .ret (kb2 (blk_kb hl (by omega)) hy _ _ _ _ _)) ?_
      refine .opn (by decide) (fun x => .bind .name .name fun z _ _ _ => .bind (.must (by decide)) (.must (by decide)) fun _ _ _ _ => .bind (ok_expr _) (sz_expr _) fun a _ _ ha => .bind (.must (by decide)) (.must (by decide)) fun _ _ _ _ => .bind (ok_expr _) (sz_expr _) fun c _ _ hc => .bind (.eatW (by decide) (fun _ => .bind (ok_expr _) fun _ => .ret _) (.ret _)) (Q := fun _ n => (∀ x ∈ n.kids, KB x) ∧ n.kids.length ≤ 3) (.eatW (by decide) (fun _ => .bind (ok_expr _) (sz_expr _) fun d _ _ hd => .ret ⟨?_, ?_⟩) (.ret ⟨?_, ?_⟩)) fun l _ _ hl => .bind (.must (by decide)) (.must (by decide)) fun _ _ _ _ => .look fun u => .bind (ob _ _) (i0 _) fun y n2 h2 hy => .bind (.must (by decide)) (.must (by decide)) fun _ _ _ _ => .ret (.mk _ _ _ _ _ _ (by have := hl.2; simp; omega) (all_app hl.1 (blk_kb hy (by omega))))) (.fail _)
      · intro y hy; simp [lst, Nd.kids] at hy; rcases hy with rfl | rfl | rfl; exact ha; exact hc; exact hd
      · simp [lst, Nd.kids]
      · intro y hy; simp [lst, Nd.kids] at hy; rcases hy with rfl | rfl; exact ha; exact hc
      · simp [lst, Nd.kids]
theorem sz_block (o : Nat) : Sz KN (blockQ o) := .len fun n => .look fun z => .bind (ok_st _ _ o trivial) (sz_st _ (.block []) o (by intro y hy; cases hy)) fun l c hc hl => .ret (blk_kb (m := 1) hl (by omega))
theorem sz_typed {k : Int} {i t : Pg Nd} (oi : OkP i) (ot : OkP t) (hi : Sz KN i) (ht : Sz KN t) : Sz KN (typedQ k i t) := .look fun z => .len fun n => .bind (ok_row (by decide) oi _ _) (sz_row (by decide) oi hi _ [] (by intro y hy; cases hy)) fun l c hc hl => .bind (.must (by decide)) (.must (by decide)) fun _ _ _ _ => .bind ot ht fun y _ _ hy => .ret (.mk _ _ _ _ _ _ (by have := hl.2; simp at this ⊢; omega) (all_app hl.1 hy))
theorem sz_ty : ∀ (f : Nat) (ny : NY) (o : Nat), Sz KN (tyQ f ny o) := by
  intro f
  induction f with
  | zero => intro ny o; cases ny <;> exact .out
  | succ f ih =>
    intro ny o
    cases ny with
    | type =>
      simp only [tyQ]
      refine .look fun z => .seeW (ih _ _) (.opn (by decide) (fun x => .bind (.eatW (by decide) (fun _ => .bind .name fun _ => .bind (.must (by decide)) fun _ => .ret _) (.ret _)) (Q := fun _ _ => True) (.eatW (by decide) (fun _ => .bind .name .name fun _ _ _ _ => .bind (.must (by decide)) (.must (by decide)) fun _ _ _ _ => .ret trivial) (.ret trivial)) fun z _ _ _ => .bind (.seeW (.ret _) (.len fun _ => ok_row (by decide) (ok_typed (ok_named _) (ok_ty _ _ _)) _ _)) (Q := LN 1) (.seeW (.ret ⟨by simp [lst, Nd.kids], by simp [lst, Nd.kids]⟩) (.len fun n => sz_row (by decide) (ok_typed (ok_named _) (ok_ty _ _ _)) (sz_typed (ok_named _) (ok_ty _ _ _) (sz_named _) (ih _ _)) _ [] (by intro y hy; cases hy))) fun l c hc hl => .bind (.must (by decide)) (.must (by decide)) fun _ _ _ _ => .ret (kb_of hl (by omega) _ _ _ _ _)) ?_)
      exact .eatW (by decide) (fun _ => .bind (.must (by decide)) (.must (by decide)) fun _ _ _ _ => .bind (ok_named _) (sz_named _) fun y _ _ hy => .ret (kb1 hy _ _ _ _ _)) (sz_named _)
    | arr p =>
      simp only [tyQ]
      split
      · exact .fail _
      · exact .eat (fun x h => by simpa using h) (fun _ => .bind (ok_expr _) (sz_expr _) fun y _ _ hy => .bind (.seeW (ok_ty _ _ _) (.bind (.must (by decide)) fun _ => ok_ty _ _ _)) (.seeW (ih _ _) (.bind (.must (by decide)) (.must (by decide)) fun _ _ _ _ => ih _ _)) fun z _ _ hz => .ret (kb2 hy hz _ _ _ _ _)) (.fail _)
theorem sz_type (o : Nat) : Sz KN (typeQ o) := .len fun _ => sz_ty _ _ _
theorem put_kb {n y : Nd} (hy : KB y) : KB (putK n y) := by cases n; exact kb1 hy _ _ _ _ _
theorem sz_const (o : Nat) : Sz KN (constQ o) := .bind (ok_marked _) (sz_marked _) fun n _ _ _ => .bind (.must (by decide)) (.must (by decide)) fun _ _ _ _ => .bind (ok_expr _) (sz_expr _) fun y _ _ hy => .ret (put_kb hy)
theorem sz_tname (o : Nat) : Sz KN (tnameQ o) := .bind (ok_named _) (sz_named _) fun n _ _ _ => .bind (.must (by decide)) (.must (by decide)) fun _ _ _ _ => .bind (ok_type _) (sz_type _) fun y _ _ hy => .ret (put_kb hy)
theorem sz_vars (o : Nat) : Sz KN (varsQ o) := sz_typed (ok_marked _) (ok_type _) (sz_marked _) (sz_type _)
theorem sz_ptype : Sz KN ptypeQ := .look fun _ => .eatW (by decide) (fun _ => .bind (.must (by decide)) (.must (by decide)) fun _ _ _ _ => .bind (ok_named _) (sz_named _) fun y _ _ hy => .ret (kb1 hy _ _ _ _ _)) (sz_named _)
theorem sz_param : Sz KN paramQ := .look fun _ => .bind (.eatW (by decide) (fun _ => .ret _) (.ret _)) (Q := fun _ _ => True) (.eatW (by decide) (fun _ => .ret trivial) (.ret trivial)) fun _ _ _ _ => .bind (ok_typed (ok_named _) ok_ptype) (sz_typed (ok_named _) ok_ptype (sz_named _) sz_ptype) fun n _ _ hn => .ret (.mk _ _ _ _ _ _ hn.len hn.all)
theorem sz_head : Sz (LN 2) headQ := .len fun n => .eatW (by decide) (fun _ => .bind (.seeW (.ret _) (ok_row (by decide) ok_param _ _)) (Q := LN 1) (.seeW (.ret ⟨by simp [lst, Nd.kids], by simp [lst, Nd.kids]⟩) (sz_row (by decide) ok_param sz_param _ [] (by intro y hy; cases hy))) fun l c hc hl => .bind (.must (by decide)) (.must (by decide)) fun _ d _ hd => .eatW (by decide) (fun _ => .bind (ok_named _) (sz_named _) fun y _ _ hy => .ret ⟨all_app hl.1 hy, by have := hl.2; simp [lst, Nd.kids] at this ⊢; omega⟩) (.ret ⟨hl.1, by have := hl.2; simp [lst, Nd.kids] at this ⊢; omega⟩)) (.ret ⟨by simp [lst, Nd.kids], by simp [lst, Nd.kids]⟩)
theorem sz_end (x : Bs) : Sz (fun _ _ => True) (endQ x) := .bind (.must (by decide)) (.must (by decide)) fun _ _ _ _ => .look fun z => by split; exact .fail _; exact (Sz.name).mono fun _ _ _ _ => trivial
theorem sz_body (o : Nat) {l : List Nd} (hl : ∀ y ∈ l, KB y) : Sz (LN (l.length + 1)) (bodyQ o l) := .eatW (by decide) (fun _ => .bind (ok_block _) (sz_block _) fun y _ _ hy => .ret ⟨all_app hl hy, by simp [lst, Nd.kids]⟩) (.ret ⟨hl, by simp [lst, Nd.kids]⟩)
theorem sz_proc (o : Nat) : Sz KN (procQ o) := .bind (.must (by decide)) (.must (by decide)) fun x _ _ _ => .bind (ok_marked _) (sz_marked _) fun n _ _ _ => .bind ok_head sz_head fun l1 c1 e1 h1 => .bind (.must (by decide)) (.must (by decide)) fun _ _ _ _ => .bind (ok_sect (by decide) (ok_const _)) (sz_sect (by decide) (ok_const _) (sz_const _)) fun l2 c2 e2 h2 => .bind (ok_sect (by decide) (ok_vars _)) (sz_sect (by decide) (ok_vars _) (sz_vars _)) fun l3 c3 e3 h3 => .bind (ok_body _ _) (sz_body _ (all_two (all_two h1.1 h2.1) h3.1)) fun l4 c4 e4 h4 => .bind (.look fun _ => .eatW (by decide) (fun _ => .bind (ok_expr _) fun _ => .ret _) (.ret _)) (Q := fun _ n => (∀ x ∈ n.kids, KB x) ∧ n.kids.length ≤ l4.kids.length + 1) (.look fun z => .eatW (by decide) (fun _ => .bind (ok_expr _) (sz_expr _) fun y _ _ hy => .ret ⟨all_app h4.1 (kb1 hy _ _ _ _ _), by simp [lst, Nd.kids]⟩) (.ret ⟨h4.1, by omega⟩)) fun l5 _ _ h5 => by
  have a1 := h1.2; have a2 := h2.2; have a3 := h3.2; have a4 := h4.2; have a5 := h5.2
  simp at a4
  cases n
  exact .bind (ok_end _) (sz_end _) fun _ _ _ _ => .ret (.mk _ _ _ _ _ _ (by omega) h5.1)
theorem sz_procs : ∀ f acc, (∀ y ∈ acc, KB y) → Sz (LN acc.length) (procsQ f acc) := by
  intro f
  induction f with
  | zero => intro acc _; exact .out
  | succ f ih =>
    intro acc ha
    refine .seeW (.bind (ok_proc _) (sz_proc _) fun x c _ hx => .bind (.must (by decide)) (.must (by decide)) fun _ d _ hd => (ih (acc ++ [x]) (all_app ha hx)).mono fun d' a _ h => ⟨h.1, ?_⟩) (.ret ⟨ha, ?_⟩)
    · have := h.2; simp at this; omega
    · simp [lst, Nd.kids]
theorem sz_module : Sz KN moduleQ := .bind (.must (by decide)) (.must (by decide)) fun x _ _ _ => .bind .name .name fun z _ _ _ => .bind (.must (by decide)) (.must (by decide)) fun _ _ _ _ => .bind (.len fun _ => .eatW (by decide) (fun _ => .bind (ok_row (by decide) (ok_named _) _ _) fun _ => .bind (.must (by decide)) fun _ => .ret _) (.ret _)) (Q := LN 1) (.len fun n => .eatW (by decide) (fun _ => .bind (ok_row (by decide) (ok_named _) _ _) (sz_row (by decide) (ok_named _) (sz_named _) _ [] (by intro y hy; cases hy)) fun l c hc hl => .bind (.must (by decide)) (.must (by decide)) fun _ _ _ _ => .ret ⟨hl.1, by have := hl.2; simp at this; omega⟩) (.ret ⟨by simp [lst, Nd.kids], by simp [lst, Nd.kids]⟩)) fun l0 c0 e0 g0 => .bind (ok_sect (by decide) (ok_const _)) (sz_sect (by decide) (ok_const _) (sz_const _)) fun l1 c1 e1 g1 => .bind (ok_sect (by decide) (ok_tname _)) (sz_sect (by decide) (ok_tname _) (sz_tname _)) fun l2 c2 e2 g2 => .bind (ok_sect (by decide) (ok_vars _)) (sz_sect (by decide) (ok_vars _) (sz_vars _)) fun l3 c3 e3 g3 => .bind (.len fun _ => ok_procs _ _) (.len fun n => sz_procs _ _ (all_two (all_two (all_two g0.1 g1.1) g2.1) g3.1)) fun l4 c4 e4 g4 => .bind (ok_body _ _) (sz_body _ g4.1) fun l5 c5 e5 g5 => .bind (ok_end _) (sz_end _) fun _ _ _ _ => .bind (.must (by decide)) (.must (by decide)) fun _ _ _ _ => .ret (by
  have a0 := g0.2; have a1 := g1.2; have a2 := g2.2; have a3 := g3.2; have a4 := g4.2; have a5 := g5.2
  simp at a4
  exact .mk _ _ _ _ _ _ (by omega) g5.1)
/-- A source's tree has few parts at each node. -/
theorem ansM_small (l : Bs) : Kb 1000000 (ansM l).1 := by
  unfold ansM
  split
  · exact Kb.zero _ _ _ _ _
  · rename_i he
    have he : (allP l).e = 0 := by omega
    obtain ⟨_, _, _, _, hl, _⟩ := allP_shape l he
    split
    · exact Kb.zero _ _ _ _ _
    · rename_i n r hr
      split
      · obtain ⟨_, _, h⟩ := sz_module _ n r (good_ts l he) hl (by rw [exec_module]; exact hr)
        exact h
      · exact Kb.zero _ _ _ _ _
end Go.Proofs.YtllhcjmabhempaaDoor

namespace Go.Proofs.YtllhcjmabhempaaDoor
set_option linter.unusedVariables false
set_option linter.unusedSimpArgs false

theorem blanks_plain (l : Bs) (gap : Nat → Bs) (hg : ∀ i, Gap (gap i)) (he : (allP l).e = 0) (t : Bs) (ht : t = outP l gap ((allP l).ts.map (·.p)) ((allP l).ts.length - 1)) (hl : t.length ≤ 16384) :
    (ansM t).2.2 = (ansM l).2.2 ∧ NdL TT (ansM l).1 (ansM t).1 := by
  have hs := short l he
  have hA := allP_goX l hs
  have he' : (goX 0 l).e = 0 := by rw [← hA]; exact he
  obtain ⟨x, r, hx, _⟩ := goX_head 0 l he'
  have hne : (allP l).ts.map (·.p) ≠ [] := by rw [hA, hx]; simp
  have h1 : t = sprF (l.length + 1) ((List.range' 0 (allP l).ts.length).map gap) l := by
    have h2 := out_whole l gap _ hne
    rw [List.length_map] at h2
    rw [ht, h2, hA]
    exact spr_same l gap (l.length + 1) 0 0 _ l rfl (by omega) he' (by omega)
  have R := spr_read (l.length + 1) 0 0 ((List.range' 0 (allP l).ts.length).map gap) l (by omega) (by intro g hgm; obtain ⟨i, _, rfl⟩ := List.mem_map.1 hgm; exact hg i) he'
  rw [← h1] at R
  obtain ⟨R1, R2, _⟩ := R
  have hT := allP_goX t hl
  rw [← hT] at R1 R2
  rw [← hA] at R2
  have g1 := good_ts l he
  have g2 := good_ts t R1
  unfold ansM
  rw [if_neg (show ¬ (allP l).e ≠ 0 by rw [he]; simp), if_neg (show ¬ (allP t).e ≠ 0 by rw [R1]; simp)]
  rcases module_blanks R2 g1 g2 with ⟨n, n', C, C', m1, m2, m3, m4, m5⟩ | ⟨q, q', e, m1, m2⟩
  · rw [m1, m2]
    simp only
    have hk : (hd C).k = (hd C').k := by
      cases m4 with
      | nil => rfl
      | cons h _ =>
        rcases h.2 with h | h
        · exact h.1
        · exact absurd h.1 (by simp)
    rw [hk]
    split
    · exact ⟨rfl, m3⟩
    · exact ⟨rfl, .mk _ _ _ _ trivial .nil⟩
  · rw [m1, m2]
    exact ⟨rfl, .mk _ _ _ _ trivial .nil⟩
/-- Places rise, and lie in the text. -/
theorem places_rise (l : Bs) (he : (allP l).e = 0) (i : Nat) (hi : i + 1 < (allP l).ts.length) : ((allP l).ts.map (·.p)).getD i 0 ≤ ((allP l).ts.map (·.p)).getD (i + 1) 0 ∧ ((allP l).ts.map (·.p)).getD (i + 1) 0 ≤ l.length := by
  have hs := short l he
  have G := ahead_good l.length 0 l (Nat.le_refl _) (by rw [← allP_goX l hs]; exact he)
  rw [← allP_goX l hs] at G
  have h1 := G.rise i hi
  obtain ⟨k, hk, hkl, _⟩ := G.upto (i + 1) hi
  simp only [List.getD_eq_getElem?_getD, List.getElem?_map, List.getElem?_eq_getElem (show i < (allP l).ts.length by omega), List.getElem?_eq_getElem hi, Option.map_some, Option.getD_some]
  omega
theorem out_end (L : Bs) (gap : Nat → Bs) (ps : List Nat) (hg : ∀ i, (gap i).length ≤ 15) (h : ∀ i, i + 1 < ps.length → ps.getD i 0 ≤ ps.getD (i + 1) 0) : ∀ j, j + 1 ≤ ps.length → (outP L gap ps j).length ≤ j * 15 + ps.getD j 0 - ps.getD 0 0
  | 0, _ => by simp [outP]
  | j + 1, hj => by
    have h1 := out_end L gap ps hg h j (by omega)
    have h2 := hg j
    have h3 := h j (by omega)
    have h0 : ps.getD 0 0 ≤ ps.getD j 0 := by
      clear h1 h2 h3
      induction j with
      | zero => exact Nat.le_refl _
      | succ j ih => exact Nat.le_trans (ih (by omega)) (h j (by omega))
    rw [outP, List.length_append, List.length_append, List.length_take, List.length_drop]
    omega
end Go.Proofs.YtllhcjmabhempaaDoor

namespace Go.Proofs.YtllhcjmabhempaaDoor
set_option linter.unusedVariables false
set_option linter.unusedSimpArgs false
open Go.ChangeShapes Go.WideShapes Go.ChangeAt Go.RowKit



/-- A row of bytes that came in. -/
def RdY (w : World) (a : Option Addr) (len : Nat) (f : Nat → Nat) : Prop :=
  len ≤ 9223372036854775807 ∧ ∀ i, i < len → ∃ b off, a = some ⟨b, off, none⟩ ∧ w.cell? ⟨b, off + i, none⟩ = some (.int .u8 (f i : Int)) ∧ f i < 256
def remT : Bs := [40, 42, 32, 120, 32, 40, 42, 32, 42, 41, 32, 59, 32, 42, 41]
def gapP (len : Nat) (f : Nat → Nat) (i : Nat) : Bs := if i < len then (if f i % 4 = 0 then [32, 9] else if f i % 4 = 1 then remT else []) else []
theorem gap_len (len : Nat) (f : Nat → Nat) (i : Nat) : (gapP len f i).length ≤ 15 := by
  unfold gapP; repeat' split
  all_goals simp [remT]
theorem gap_gap (len : Nat) (f : Nat → Nat) (i : Nat) : Gap (gapP len f i) := by
  unfold gapP; repeat' split
  · exact ⟨by kernel_rfl, .inr (.inl ⟨_, rfl⟩)⟩
  · exact ⟨by kernel_rfl, .inr (.inr ⟨_, rfl⟩)⟩
  · exact ⟨rfl, .inl rfl⟩
  · exact ⟨rfl, .inl rfl⟩
theorem out_len (L : Bs) (gap : Nat → Bs) (ps : List Nat) (hg : ∀ i, (gap i).length ≤ 15) (hL : L.length ≤ 16384) : ∀ j, (outP L gap ps j).length ≤ j * 20000
  | 0 => by simp [outP]
  | j + 1 => by
    have h1 := out_len L gap ps hg hL j
    have h2 := hg j
    rw [outP, List.length_append, List.length_append, List.length_take, List.length_drop]
    omega
set_option maxHeartbeats 8000000 in
set_option maxRecDepth 20000 in
theorem spread_any (l : Bs) (hl : l.length ≤ 16384) (ts : List Tok) (g cp : Nat) (a : Option Addr) (len cap : Nat) (f : Nat → Nat) (w : World) (hT : ∀ i (hi : i < ts.length), ∀ j, j < 4 → w.cell? ⟨g, i * 4 + j, none⟩ = ts[i].tk.cells[j]?) (hn : 0 < ts.length) (hm : ts.length ≤ 16385) (hp : ∀ i, i + 1 < ts.length → (ts.map (·.p)).getD i 0 ≤ (ts.map (·.p)).getD (i + 1) 0 ∧ (ts.map (·.p)).getD (i + 1) 0 ≤ l.length) (hY : RdY w a len f) :
    Calls Tryd.prog 7 #[.string (bs l), .slice (some ⟨g, 0, none⟩) ts.length cp, .slice a len cap] w fun e w' => e = .returned (.string (bs (outP l (gapP len f) (ts.map (·.p)) (ts.length - 1)))) ∧ Below w.heap.size w w' := by
  have HT : Hid (∀ i, i < ts.length → w.cell? ⟨g, i * 4 + 3, none⟩ = some (.int .i64 (((ts.map (·.p)).getD i 0 : Nat) : Int))) := fun i hi => by
    rw [hT i hi 3 (by omega), List.getD_eq_getElem?_getD, List.getElem?_map, List.getElem?_eq_getElem hi]; rfl
  have HY : Hid (∀ i, i < len → ∃ b off, a = some ⟨b, off, none⟩ ∧ w.cell? ⟨b, off + i, none⟩ = some (.int .u8 (f i : Int)) ∧ f i < 256) := hY.2
  have hyl := hY.1
  have OL := out_len l (gapP len f) (ts.map (·.p)) (gap_len len f) hl
  have hz := bs_size l
  generalize hps : ts.map (·.p) = ps at HT hp OL ⊢
  clear hT hY hps
  generalize ts.length = N at HT hp hn hm ⊢
  go_enter Tryd.func7, Tryd.ntmps7
  go_wp2
  go_loopg [7, 8] N (fun gf s7 s8 X => ∃ j n : Nat, s8 = .int .i64 (j : Int) ∧ s7 = .string (bs (outP l (gapP len f) ps j)) ∧ X = w.drewN n ∧ j + 1 ≤ N ∧ N ≤ j + gf)
  case atStart => exact ⟨0, 0, rfl, rfl, by rw [World.drewN_zero], by omega, by omega⟩
  case round =>
    obtain ⟨j, n, rfl, rfl, hX, hj, hgf⟩ := hrel
    subst hX
    by_cases hlt : j + 1 < N
    · obtain ⟨g', rfl⟩ : ∃ g', gk = g' + 1 := ⟨gk - 1, by omega⟩
      have d0 : decide ((j : Int) + 1 < (N : Int)) = true := decide_eq_true (by omega)
      have c1 := HT.out j (by omega)
      have c2 := HT.out (j + 1) hlt
      have hpp := hp j hlt
      have E1 : outP l (gapP len f) ps (j + 1) = outP l (gapP len f) ps j ++ (gapP len f j ++ (l.drop (ps.getD j 0)).take (ps.getD (j + 1) 0 - ps.getD j 0)) := rfl
      have hol := OL j
      generalize ps.getD j 0 = pj at c1 hpp E1
      generalize ps.getD (j + 1) 0 = pk at c2 hpp E1
      have bm := bs_mid l pj pk
      have b1 : (j : Int) < (N : Int) := by omega
      have b2 : (j : Int) + 1 < (N : Int) := by omega
      have b3 : (pj : Int) ≤ (pk : Int) := by omega
      have b4 : (pk : Int) ≤ (l.length : Int) := by omega
      obtain ⟨O, hO⟩ : ∃ O, O = outP l (gapP len f) ps j := ⟨_, rfl⟩
      rw [← hO] at E1 hol ⊢
      clear hO
      have hoz := bs_size O
      have hpz : (bs ((l.drop pj).take (pk - pj))).size = pk - pj := by rw [bs_size, List.length_take, List.length_drop]; omega
      by_cases hjl : j < len
      · have d1 : decide ((j : Int) < (len : Int)) = true := decide_eq_true (by omega)
        obtain ⟨b, off, rfl, c3, h256⟩ := HY.out j hjl
        have EG : gapP len f j = if f j % 4 = 0 then [32, 9] else if f j % 4 = 1 then remT else [] := by unfold gapP; rw [if_pos hjl]
        rw [EG] at E1
        clear EG
        generalize f j = fj at c3 E1 h256
        by_cases h0 : fj % 4 = 0
        · have e0 : (fj : Int) % 4 = 0 := by omega
          rw [if_pos h0] at E1
          have ct : bs O ++ bs [32, 9] = bs (O ++ [32, 9]) := bs_app _ _
          have ct2 : bs (O ++ [32, 9]) ++ bs ((l.drop pj).take (pk - pj)) = bs (O ++ [32, 9] ++ (l.drop pj).take (pk - pj)) := bs_app _ _
          have hgz : (bs [32, 9]).size = 2 := bs_size _
          have hoz2 : (bs (O ++ [32, 9])).size = O.length + 2 := by rw [bs_size, List.length_append]; rfl
          go_wp2
          go_region
          go_wp2
          go_roundg g'
          case measure => omega
          case rel => exact ⟨j + 1, _, by simp, by rw [E1]; exact congrArg Value.string (by rw [← List.append_assoc, ← ct2, ← ct]; rfl), rfl, by omega, by omega⟩
        · by_cases h1 : fj % 4 = 1
          · have e0 : (fj : Int) % 4 = 1 := by omega
            rw [if_neg h0, if_pos h1, remT] at E1
            have ct : bs O ++ bs [40, 42, 32, 120, 32, 40, 42, 32, 42, 41, 32, 59, 32, 42, 41] = bs (O ++ [40, 42, 32, 120, 32, 40, 42, 32, 42, 41, 32, 59, 32, 42, 41]) := bs_app _ _
            have ct2 : bs (O ++ [40, 42, 32, 120, 32, 40, 42, 32, 42, 41, 32, 59, 32, 42, 41]) ++ bs ((l.drop pj).take (pk - pj)) = bs (O ++ [40, 42, 32, 120, 32, 40, 42, 32, 42, 41, 32, 59, 32, 42, 41] ++ (l.drop pj).take (pk - pj)) := bs_app _ _
            have hgz : (bs [40, 42, 32, 120, 32, 40, 42, 32, 42, 41, 32, 59, 32, 42, 41]).size = 15 := bs_size _
            have hoz2 : (bs (O ++ [40, 42, 32, 120, 32, 40, 42, 32, 42, 41, 32, 59, 32, 42, 41])).size = O.length + 15 := by rw [bs_size, List.length_append]; rfl
            go_wp2
            go_region
            go_wp2
            go_roundg g'
            case measure => omega
            case rel => exact ⟨j + 1, _, by simp, by rw [E1]; exact congrArg Value.string (by rw [← List.append_assoc, ← ct2, ← ct]; rfl), rfl, by omega, by omega⟩
          · have e0 : ¬ ((fj : Int) % 4 = 0) := by omega
            have e1 : ¬ ((fj : Int) % 4 = 1) := by omega
            rw [if_neg h0, if_neg h1, List.nil_append] at E1
            have ct : bs O ++ bs ((l.drop pj).take (pk - pj)) = bs (O ++ (l.drop pj).take (pk - pj)) := bs_app _ _
            go_wp2
            go_region
            go_wp2
            go_roundg g'
            case measure => omega
            case rel => exact ⟨j + 1, _, by simp, by rw [E1], rfl, by omega, by omega⟩
      · have d1 : decide ((j : Int) < (len : Int)) = false := decide_eq_false (by omega)
        have EG : gapP len f j = [] := by unfold gapP; rw [if_neg hjl]
        rw [EG, List.nil_append] at E1
        have ct : bs O ++ bs ((l.drop pj).take (pk - pj)) = bs (O ++ (l.drop pj).take (pk - pj)) := bs_app _ _
        go_wp2
        go_region
        go_wp2
        go_roundg g'
        case measure => omega
        case rel => exact ⟨j + 1, _, by simp, by rw [E1], rfl, by omega, by omega⟩
    · have d0 : decide ((j : Int) + 1 < (N : Int)) = false := decide_eq_false (by omega)
      have hjN : j = N - 1 := by omega
      subst hjN
      go_wp2
      go_ret
      exact ⟨rfl, below_drewN (Below.refl _ _) _⟩
end Go.Proofs.YtllhcjmabhempaaDoor

namespace Go.Proofs.YtllhcjmabhempaaDoor
set_option linter.unusedVariables false
set_option linter.unusedSimpArgs false
open Go.ChangeShapes Go.WideShapes Go.ChangeAt Go.RowKit



theorem RdY.below {w X : World} {a : Option Addr} {len : Nat} {f : Nat → Nat} (h : RdY w a len f) (hX : Below w.heap.size w X) (hl : ∀ i, i < len → ∀ b off, a = some ⟨b, off, none⟩ → b < w.heap.size) : RdY X a len f := by
  refine ⟨h.1, fun i hi => ?_⟩
  obtain ⟨b, off, e, hc, h2⟩ := h.2 i hi
  exact ⟨b, off, e, (hX.cell (p := ⟨b, off + i, none⟩) (hl i hi b off e)).trans hc, h2⟩
set_option maxHeartbeats 8000000 in
set_option maxRecDepth 20000 in
theorem blanks_fails (l : Bs) (a : Option Addr) (len cap : Nat) (w : World) (V : Vars w) (he : (allP l).e ≠ 0) : Calls Tryd.prog 3 #[.string (bs l), .slice a len cap] w fun e w' => e = .returned (.bool true) ∧ Below w.heap.size w w' := by
  have SH := shownT w V
  have AL : Hid (∀ X, Below w.heap.size w X → Calls Tryd.prog 6 #[.string (bs l)] X _) := fun X hX => all_any l X (V.below hX V.big2)
  have n0 : ((allP l).e != 0) = true := by simpa using he
  clear V he
  generalize allP l = A at AL n0
  go_enter Tryd.func3, Tryd.ntmps3
  go_wp2_with (first
    | (go_at_call 6; refine (AL.out _ hb0).mono ?_; rintro e' w1 ⟨v, rfl, ho, hb1⟩; have hs1 := hb1.size)
    | (go_at_call 5; refine SH.mono ?_; rintro e' w0 ⟨rfl, hb0⟩; have hs0 := hb0.size))
  go_ret
  exact ⟨rfl, hb0.trans (hb1.mono hs0)⟩
set_option maxHeartbeats 8000000 in
set_option maxRecDepth 20000 in
theorem blanks_long (l : Bs) (a : Option Addr) (len cap : Nat) (f : Nat → Nat) (w : World) (V : Vars w) (hY : ∀ X, Below w.heap.size w X → RdY X a len f) (he : (allP l).e = 0) (T : Bs) (hT : T = outP l (gapP len f) ((allP l).ts.map (·.p)) ((allP l).ts.length - 1)) (hTl : T.length ≤ 4611686018427387904) (hb : 16384 < T.length) : Calls Tryd.prog 3 #[.string (bs l), .slice a len cap] w fun e w' => e = .returned (.bool true) ∧ Below w.heap.size w w' := by
  have SH := shownT w V
  have AL : Hid (∀ X, Below w.heap.size w X → Calls Tryd.prog 6 #[.string (bs l)] X _) := fun X hX => all_any l X (V.below hX V.big2)
  obtain ⟨d, xx, e1, e2, e3, e4⟩ := allP_shape l he
  have hne : (allP l).ts ≠ [] := by rw [e1]; simp
  have hlp : 0 < (allP l).ts.length := List.length_pos_iff.2 hne
  have PR := places_rise l he
  have SP : Hid (∀ X g cp, Below w.heap.size w X → (∀ i (hi : i < (allP l).ts.length), ∀ j, j < 4 → X.cell? ⟨g, i * 4 + j, none⟩ = (allP l).ts[i].tk.cells[j]?) → Calls Tryd.prog 7 #[.string (bs l), .slice (some ⟨g, 0, none⟩) (allP l).ts.length cp, .slice a len cap] X fun e w' => e = .returned (.string (bs T)) ∧ Below X.heap.size X w') := fun X g cp hX ht => by
    rw [hT]; exact spread_any l (short l he) (allP l).ts g cp a len cap f X ht hlp (by omega) PR (hY X hX)
  have n0 : ((allP l).e != 0) = false := by rw [he]; rfl
  have hz := bs_size T
  have k1 : decide ((16384 : Int) < (T.length : Int)) = true := decide_eq_true (by omega)
  clear V he hT PR e1 e2 e3 e4 hb
  generalize allP l = A at *
  go_enter Tryd.func3, Tryd.ntmps3
  go_wp2_with (first
    | (go_at_call 7; refine (SP.out _ _ _ (hb0.trans (hb1.mono hs0)) htok).mono ?_; rintro e' w2 ⟨rfl, hb2⟩; have hs2 := hb2.size)
    | (go_at_call 6; refine (AL.out _ hb0).mono ?_; rintro e' w1 ⟨v, rfl, ho, hb1⟩; have hs1 := hb1.size; obtain ⟨g, cp, rfl, hg1, hg2, htok⟩ := own_at3 ho hne; clear ho)
    | (go_at_call 5; refine SH.mono ?_; rintro e' w0 ⟨rfl, hb0⟩; have hs0 := hb0.size))
  go_ret
  exact ⟨rfl, (hb0.trans (hb1.mono hs0)).trans (hb2.mono (by omega))⟩
set_option maxHeartbeats 8000000 in
set_option maxRecDepth 20000 in
theorem blanks_goes (l : Bs) (a : Option Addr) (len cap : Nat) (f : Nat → Nat) (w : World) (V : Vars w) (hY : ∀ X, Below w.heap.size w X → RdY X a len f) (he : (allP l).e = 0) (T : Bs) (hT : T = outP l (gapP len f) ((allP l).ts.map (·.p)) ((allP l).ts.length - 1)) (hb : T.length ≤ 16384) : Calls Tryd.prog 3 #[.string (bs l), .slice a len cap] w fun e w' => e = .returned (.bool true) ∧ Below w.heap.size w w' := by
  have SH := shownT w V
  have AL : Hid (∀ X, Below w.heap.size w X → Calls Tryd.prog 6 #[.string (bs l)] X _) := fun X hX => all_any l X (V.below hX V.big2)
  have MO : Hid (∀ X, Below w.heap.size w X → Calls Tryd.prog 8 #[.string (bs l)] X (PostA X (ansM l))) := fun X hX => modules_any l X (V.below hX V.big2)
  have MT : Hid (∀ X, Below w.heap.size w X → Calls Tryd.prog 8 #[.string (bs T)] X (PostA X (ansM T))) := fun X hX => modules_any T X (V.below hX V.big2)
  obtain ⟨d, xx, e1, e2, e3, e4⟩ := allP_shape l he
  have hne : (allP l).ts ≠ [] := by rw [e1]; simp
  have hlp : 0 < (allP l).ts.length := List.length_pos_iff.2 hne
  have PR := places_rise l he
  have SP : Hid (∀ X g cp, Below w.heap.size w X → (∀ i (hi : i < (allP l).ts.length), ∀ j, j < 4 → X.cell? ⟨g, i * 4 + j, none⟩ = (allP l).ts[i].tk.cells[j]?) → Calls Tryd.prog 7 #[.string (bs l), .slice (some ⟨g, 0, none⟩) (allP l).ts.length cp, .slice a len cap] X fun e w' => e = .returned (.string (bs T)) ∧ Below X.heap.size X w') := fun X g cp hX ht => by
    rw [hT]; exact spread_any l (short l he) (allP l).ts g cp a len cap f X ht hlp (by omega) PR (hY X hX)
  obtain ⟨P1, P2⟩ := blanks_plain l (gapP len f) (gap_gap len f) he T hT hb
  have SM : Hid (∀ X P Q c d, NdAt X P c (ansM l).1 → NdAt X Q d (ansM T).1 → Calls Tryd.prog 9 #[.agg c.cells, .agg d.cells, .bool false] X _) := fun X P Q c d h1 h2 => same_al (by decide) (ansM_small l) _ P2 X P Q c d h1 h2
  have n0 : ((allP l).e != 0) = false := by rw [he]; rfl
  have hz := bs_size T
  have k1 : decide ((16384 : Int) < (T.length : Int)) = false := decide_eq_false (by omega)
  clear V he hT PR e1 e2 e3 e4 hb P2
  generalize allP l = A at *
  generalize ansM l = M at *
  generalize ansM T = M' at *
  obtain ⟨n, q, fe⟩ := M
  obtain ⟨n', q', fe'⟩ := M'
  simp only at P1 SM MO MT
  subst P1
  have k2 : (fe' == fe') = true := by simp
  go_enter Tryd.func3, Tryd.ntmps3
  go_wp2_with (first
    | (go_at_call 9; refine (SM.out _ _ _ c3 c4 N1.out N2.out).mono ?_; rintro e' w5 ⟨rfl, hb5⟩)
    | (go_at_call 8; refine (MT.out _ B3.out).mono ?_; rintro e' w4 ⟨c4, rfl, nd4, hb4⟩; have hs4 := hb4.size; simp at hs4; have r4 : rowAt w4 w3.heap.size = some c3.cells := (rowAt_below hb4 _ (by simp)).trans (rowAt_at _ _ _ _ _ rfl); have hn4 : w3.heap.size ≠ w4.heap.size := (by omega); have b4' : Below w3.heap.size w3 w4 := ((Below.refl _ _).alloc (Nat.le_refl _) _).trans (hb4.mono (by simp)); have bal : Below w4.heap.size w4 (w4.alloc (.cells c4.cells 31)) := (Below.refl _ _).alloc (Nat.le_refl _) _; have N1 : Hid (NdAt (w4.alloc (.cells c4.cells 31)) (fun x => w2.heap.size ≤ x) c3 n) := nd3.keep (fun _ hx _ => hx) (by simp; omega) (fun x _ hl => (bal.block x (by omega)).trans (b4'.block x hl)); have N2 : Hid (NdAt (w4.alloc (.cells c4.cells 31)) (fun x => (w3.alloc (.cells c3.cells 31)).heap.size ≤ x) c4 n') := nd4.keep (fun _ hx _ => hx) (by simp) (fun x _ hl => bal.block x hl); have B4 : Hid (Below w.heap.size w (w4.alloc (.cells c4.cells 31))) := B3.out.trans ((hb4.trans ((Below.refl _ _).alloc (by simp; omega) _)).mono B3.out.size))
    | (go_at_call 8; refine (MO.out _ B2.out).mono ?_; rintro e' w3 ⟨c3, rfl, nd3, hb3⟩; have hs3 := hb3.size; have B3 : Hid (Below w.heap.size w (w3.alloc (.cells c3.cells 31))) := B2.out.trans ((hb3.trans ((Below.refl _ _).alloc hs3 _)).mono B2.out.size))
    | (go_at_call 7; refine (SP.out _ _ _ (hb0.trans (hb1.mono hs0)) htok).mono ?_; rintro e' w2 ⟨rfl, hb2⟩; have hs2 := hb2.size; have B2 : Hid (Below w.heap.size w w2) := (hb0.trans (hb1.mono hs0)).trans (hb2.mono (by omega)))
    | (go_at_call 6; refine (AL.out _ hb0).mono ?_; rintro e' w1 ⟨v, rfl, ho, hb1⟩; have hs1 := hb1.size; obtain ⟨g, cp, rfl, hg1, hg2, htok⟩ := own_at3 ho hne; clear ho)
    | (go_at_call 5; refine SH.mono ?_; rintro e' w0 ⟨rfl, hb0⟩; have hs0 := hb0.size))
  go_ret
  exact ⟨rfl, B4.out.trans (hb5.mono B4.out.size)⟩
end Go.Proofs.YtllhcjmabhempaaDoor

namespace Go.Proofs.YtllhcjmabhempaaDoor
set_option linter.unusedVariables false
set_option linter.unusedSimpArgs false
open Go.ChangeShapes Go.WideShapes Go.ChangeAt Go.RowKit

theorem rdy_of {H : Type} {enc : TypeId × Value → H} {W : World} {base : Nat} {held : Bool} {a : Option Addr} {len cap : Nat} {d : DataW H} {p : List MemPlace}
    (h : DataW.Trod enc Tryd.prog W base (fun _ => true) held 22 (.slice a len cap) d p) : ∃ f, RdY W a len f := by
  obtain ⟨fuel, hf⟩ := h
  rcases open_ints Tryd.underlying22 Tryd.underlying5 (by kernel_rfl) hf with ⟨hcs, _⟩ | ⟨x, l, c, zs, hcs, hd, hl, hm, hz, hx, hcell, hwz⟩
  · simp [Value.cells] at hcs
    obtain ⟨rfl, rfl, rfl⟩ := hcs
    exact ⟨fun _ => 0, by omega, fun i hi => by omega⟩
  · simp [Value.cells] at hcs
    obtain ⟨rfl, rfl, rfl⟩ := hcs
    have hz' : zs.length = cap := by simpa using hz
    unfold maxLen at hm
    refine ⟨fun i => (zs.getD i 0).toNat, by omega, fun i hi => ?_⟩
    obtain ⟨b, off, spot⟩ := x
    have hc := hcell 0 (by omega)
    have hspot : spot = none := by simpa [Addr.add] using World.cell?_spot hc
    subst hspot
    have h1 := hcell i (by omega)
    rw [Addr.add_mid] at h1
    have h2 : zs.getD i 0 ∈ zs := by
      rw [List.getD_eq_getElem?_getD, List.getElem?_eq_getElem (show i < zs.length by omega)]; exact List.getElem_mem _
    have h3 := bounds_u8 (hwz _ h2)
    refine ⟨b, off, rfl, ?_, by show (zs.getD i 0).toNat < 256; omega⟩
    show _ = some (Value.int .u8 (((zs.getD i 0).toNat : Nat) : Int))
    rw [Int.toNat_of_nonneg h3.1]; exact h1
theorem treeBlanks_any (s : ByteArray) (a : Option Addr) (len cap : Nat) (f : Nat → Nat) (w : World) (V : Vars w) (h : RdY w a len f) : Calls Tryd.prog 3 #[.string s, .slice a len cap] w fun e w' => e = .returned (.bool true) ∧ Below w.heap.size w w' := by
  rw [← bs_of s]
  generalize s.data.toList = l
  have hY : ∀ X, Below w.heap.size w X → RdY X a len f := fun X hX => h.below hX fun i hi b off e => by
    obtain ⟨b', off', e', hc, _⟩ := h.2 i hi
    rw [e] at e'
    cases e'
    exact World.block_lt_of_cell? w _ hc
  by_cases he : (allP l).e = 0
  · by_cases hb : (outP l (gapP len f) ((allP l).ts.map (·.p)) ((allP l).ts.length - 1)).length ≤ 16384
    · exact blanks_goes l a len cap f w V hY he _ rfl hb
    · obtain ⟨_, _, _, _, e3, _⟩ := allP_shape l he
      have := out_len l (gapP len f) ((allP l).ts.map (·.p)) (gap_len len f) (short l he) ((allP l).ts.length - 1)
      exact blanks_long l a len cap f w V hY he _ rfl (by omega) (by omega)
  · exact blanks_fails l a len cap w V he
end Go.Proofs.YtllhcjmabhempaaDoor

namespace Go.Proofs.YtllhcjmabhempaaDoor
set_option linter.unusedVariables false
set_option linter.unusedSimpArgs false
open Go.ChangeShapes Go.WideShapes Go.ChangeAt Go.RowKit

theorem at_of {l : List Value} {k : Nat} {v : Value} (h : (l.drop k).take 1 = [v]) : l[k]? = some v := by
  have : ((l.drop k).take 1)[0]? = some v := by rw [h]; rfl
  simpa using this
theorem some_of {α : Type} {xs : List α} {n i : Nat} (h : xs.length = n) (hi : i < n) : ∃ y, xs[i]? = some y := ⟨xs[i]'(by omega), List.getElem?_eq_getElem (by omega)⟩
theorem Tryd.cells9 : Tryd.prog.cellsOf 9 = 1 := by kernel_rfl
/-- One listed variable: its block, its cells, what they read as. -/
def OneIs (W : World) (n : String) (d : DataW Unit) : Prop := ∃ g t cs fuel p, Tryd.prog.globalNamed n = some g ∧ (Tryd.prog.globals[g]?).map (·.type) = some t ∧ W.var? Tryd.prog n = some cs ∧ DataW.trod (fun _ => ()) Tryd.prog W 0 (fun _ => true) false fuel t cs.toList = some (d, p)
theorem laid_each {W : World} : ∀ {l : List (String × DataW Unit)} {ps : List MemPlace}, DataW.LaidVars Tryd.prog W l ps → ∀ x ∈ l, OneIs W x.1 x.2
  | [], _, _, x, hx => by cases hx
  | (n, d) :: r, ps, ⟨g, t, cs, fuel, p, q, h1, h2, h3, h4, h5, _⟩, x, hx => by
    rcases List.mem_cons.1 hx with rfl | hx
    · exact ⟨g, t, cs, fuel, p, h1, h2, h3, h4⟩
    · exact laid_each h5 x hx
theorem strs_of {W : World} {n : String} {ls : List Bs} {g t m : Nat} (h : OneIs W n (.agg (ls.map fun s => .lit (.string s)))) (hg : Tryd.prog.globalNamed n = some g) (ht : (Tryd.prog.globals[g]?).map (·.type) = some t) (hu : Tryd.prog.underlying t = some (.array m 9)) (hm : ls.length = m) :
    ∀ o (ho : o < ls.length), W.cell? ⟨g, o, none⟩ = some (.string (bs ls[o])) := by
  obtain ⟨g', t', cs, fuel, p, h1, h2, h3, h4⟩ := h
  obtain rfl := Option.some.inj (hg.symm.trans h1)
  obtain rfl := Option.some.inj (ht.symm.trans h2)
  obtain ⟨xs, k, _, ex, _, hl, hel⟩ := DataW.trod_array hu h4
  have e1 : ls.map (fun s => (.lit (.string s) : DataW Unit)) = xs.map (·.1) := by have := (Prod.mk.inj ex).1; simpa using this
  intro o ho
  obtain ⟨y, hy⟩ := some_of hl (hm ▸ ho)
  have hE := hel o (hm ▸ ho)
  rw [hy, Tryd.cells9] at hE
  obtain ⟨s, e2, e3, _⟩ := DataW.trod_string Tryd.underlying9 hE
  have h5 := at_of e2
  rw [World.var?_cell hg h3 o]
  have h6 : cs[o]? = some (.string s) := by simpa using h5
  rw [h6]
  have h7 : (ls.map (fun s => (.lit (.string s) : DataW Unit)))[o]? = (xs.map (·.1))[o]? := by rw [e1]
  rw [List.getElem?_map, List.getElem?_map, hy, List.getElem?_eq_getElem ho] at h7
  simp only [Option.map_some, Option.some.injEq, e3, DataW.lit.injEq, Lit.string.injEq] at h7
  rw [h7, bs_of]
theorem keys_eq : (Rows.laid_carrel_scan_keywords : DataW Unit) = .agg (keysL.map fun s => .lit (.string s)) := rfl
theorem signs_eq : (Rows.laid_carrel_scan_signs : DataW Unit) = .agg (signsL.map fun s => .lit (.string s)) := rfl
theorem keys_of {W : World} (h : OneIs W "carrel/scan.keywords" Rows.laid_carrel_scan_keywords) : KVars W := by
  rw [keys_eq] at h
  have hk := strs_of (g := 1) h (by kernel_rfl) (by kernel_rfl) Tryd.underlying73 rfl
  exact ⟨World.block_lt_of_cell? W _ (hk 0 (by decide)), hk⟩
theorem vars_of {W : World} (h : OneIs W "carrel/scan.keywords" Rows.laid_carrel_scan_keywords) (hs : OneIs W "carrel/scan.signs" Rows.laid_carrel_scan_signs) : Vars W := by
  rw [signs_eq] at hs
  have hk := strs_of (g := 0) hs (by kernel_rfl) (by kernel_rfl) Tryd.underlying67 rfl
  have h1 := (keys_of h).1
  have h2 := World.block_lt_of_cell? W _ (hk 0 (by decide))
  exact ⟨keys_of h, (by simp at h1 h2 ⊢; omega), hk⟩
/-- The tables that a law lists. -/
def laid2 : List (String × DataW Unit) := Rows.treeBlanksRow.laid
theorem vars_laid {W : World} (h : laidMetH Tryd.prog laid2 W) : Vars W := by
  rw [MakeChecks.laidMetH_plain _ _ _ (by kernel_rfl)] at h
  obtain ⟨ps, hl, _⟩ := h
  exact vars_of (laid_each hl ("carrel/scan.keywords", Rows.laid_carrel_scan_keywords) (by simp [laid2, Rows.treeBlanksRow])) (laid_each hl ("carrel/scan.signs", Rows.laid_carrel_scan_signs) (by simp [laid2, Rows.treeBlanksRow]))
/-- A contract at the worlds that a row speaks of, by its listed variables and by the shape of all others. -/
theorem returns_laid {C : Checked} {H : Type} {enc : TypeId × Value → H} {os : Os} {f : FuncId} {fn : Func} {s : ChangeSpec} {X : World → Array Value → Prop} (hX : ∀ (w w' : World) (args : Array Value), w.heap = w'.heap → X w args → X w' args)
    (own : ownKnob C.prog.godebug = none) (started : os.Started) (noInit : C.prog.inits.idxOf? f = none) (hfn : C.prog.funcs[f]? = some fn)
    (witness : ∃ (w : World) (tape : Tape) (i : Input), w.os = os ∧ (w.forCall tape i).Shaped C.prog ∧ i.vars = [] ∧ Input.okWide C.prog (w.forCall tape i) .any w.heap.size f i ∧
      ((s.pre enc C.prog fn [] false (w.forCall tape i).memory i.args ∧ X (w.forCall tape i).memory i.args) ∧ sizedMet enc C.prog fn (OpenSpec.ofChange s) false (w.forCall tape i).memory i.args) ∧ ({} : Assume).holds C.prog (lone (Frame.enter C.prog f i.args .normal) [] (w.forCall tape i)))
    (K : ∀ (W : World) (base : Nat) (args : Array Value) (ds gs : List (DataW H)) (before : List MemPlace), W.ShapedOpen C.prog → X W args →
      (∀ (j : Nat) t v, fn.params[j]? = some t → args[j]? = some v → Value.okWide C.prog W .any base t v) → DataW.Whole enc C.prog fn.params.toList s.vars false W args.toList ds gs before →
      Calls C.prog f args W fun e W' => ∃ v, e = .returned v ∧ s.post enc C.prog fn false true false false W args v W') :
    ReturnsInHanded {} C os f .any (fun w args => (s.pre enc C.prog fn [] false w args ∧ X w args) ∧ sizedMet enc C.prog fn (OpenSpec.ofChange s) false w args) (s.post enc C.prog fn false true false false) := by
  refine returnsInHanded_of_calls own started noInit witness fun w tape i _ hS _ ok pre _ => ?_
  obtain ⟨_, _, _, fn', h', _, _, _, _, hv⟩ := ok
  obtain rfl : fn' = fn := Option.some.inj (h'.symm.trans hfn)
  obtain ⟨⟨⟨ds, gs, before, hw, _⟩, hx⟩, _⟩ := pre
  refine (K (w.forCall tape i) w.heap.size i.args ds gs before hS (hX _ _ _ (by rfl) hx) hv (DataW.Whole.of_heap (w' := w.forCall tape i) (by rfl) hw)).mono fun e W' ⟨v, he, hp⟩ => ?_
  subst he
  exact ChangeSpec.post_blind hp
theorem ownK : ownKnob Tryd.prog.godebug = none := by kernel_rfl
theorem laidOutB8 : laidOutB Tryd.prog = true := by kernel_rfl
end Go.Proofs.YtllhcjmabhempaaDoor

namespace Go.Proofs.YtllhcjmabhempaaDoor
open Go.ChangeShapes Go.WideShapes Go.ChangeAt Go.RowKit
open Go.ChangeMaps (open_string shut_string)
set_option linter.unusedVariables false

namespace treeBlanks
set_option maxRecDepth 100000 in
theorem lifted (os : Os) (started : os.Started) (H : Type) (enc : TypeId × Value → H) :
    ReturnsInHanded {} Tryd.checked os 3 .any (fun w args => (Rows.treeBlanksSpec.pre enc Tryd.prog Tryd.f3 [] false w args ∧ laidMetH Tryd.prog laid2 w) ∧ sizedMet enc Tryd.prog Tryd.f3 (OpenSpec.ofChange Rows.treeBlanksSpec) false w args)
      (Rows.treeBlanksSpec.post enc Tryd.prog Tryd.f3 false true false false) := by
  refine returns_laid (C := Tryd.checked) (X := fun w _ => laidMetH Tryd.prog laid2 w) (fun _ _ _ hh h => h.of_heap hh) ownK started (by kernel_rfl) Tryd.func3
    (ChangeSpec.witness_shaped (enc := enc) (C := Tryd.checked) (os := os) (X := fun w _ => laidMetH Tryd.prog laid2 w) false (World.laidAll Tryd.prog os laid2) #[.string ⟨#[]⟩, .slice none 0 0] 8 (World.laidAll_os _ _ _)
      (World.shaped_of_ZipB (by kernel_rfl) (by kernel_rfl)) (by kernel_rfl) (by kernel_rfl) (by kernel_rfl)
      (by rw [MakeChecks.laidMetH_plain _ _ _ (by kernel_rfl)]; exact laidMet_laidAll _ (by kernel_rfl) (by kernel_rfl))) ?_
  intro W base args ds gs before hS hL hval0 hW
  have V := vars_laid hL
  clear hS hL
  have hval : ∀ (j : Nat) t v, Tryd.f3.params[j]? = some t → args[j]? = some v → Value.okWide Tryd.prog W .any base t v := hval0
  have hW' := hW
  obtain ⟨p, q, hA0, hV, rfl, hfz, hnd⟩ := hW
  have hA : DataW.TrodAll enc Tryd.prog W 0 (fun _ => true) true Tryd.f3.params.toList args.toList ds p := hA0
  rw [Tryd.params3] at hA hval
  obtain ⟨v0, vs0, d0, ds0, p0, q0, hargs, rfl, rfl, h0, r0⟩ := trodAll_cons hA
  obtain ⟨v1, vs1, d1, ds1, p1, q1, rfl, rfl, rfl, h1, r1⟩ := trodAll_cons r0
  obtain ⟨rfl, rfl, rfl⟩ := trodAll_nil r1
  obtain rfl : args = #[v0, v1] := by cases args; simp_all
  obtain ⟨rfl, rfl⟩ := trodVars_none hV
  obtain ⟨s0, rfl, rfl, rfl, w0⟩ := open_string Tryd.underlying9 (hval 0 9 v0 rfl rfl) h0
  obtain ⟨a1, len1, cap1, rfl⟩ := okWide_slice Tryd.underlying22 (hval 1 22 v1 rfl rfl)
  have k1 := h1
  have lt1 : ∀ x ∈ p1, x.block < W.heap.size := by obtain ⟨m, hm⟩ := k1; exact DataW.trod_lt m _ _ _ hm
  obtain ⟨f1, w1⟩ := rdy_of h1
  clear hA0 hval0
  refine (treeBlanks_any s0 a1 len1 cap1 f1 W V w1).mono fun e W' ⟨he, bel⟩ => ?_
  subst he
  exact ⟨_, rfl, _, _, _, [], _, [], hW', trodAll_mk1 (shut_bool Tryd.underlying4 _), (trodAll_cons_mk (shut_string Tryd.underlying9 w0) (trodAll_cons_mk (Below.trod laidOutB8 (by kernel_rfl) (of_decide_eq_true (by kernel_rfl)) k1 bel lt1) trodAll_mk0)), rfl, bel.frame _, fun h => by cases h⟩

theorem over : Rows.TreeBlanksSaid :=
  OpenClaim.holds_of_wide 3 Tryd.f3 rfl rfl rfl rfl rfl rfl rfl ⟨rfl, rfl, rfl, rfl, rfl⟩ rfl rfl rfl rfl rfl (by kernel_rfl) Tryd.func3 (by kernel_rfl)
    (of_decide_eq_true (by kernel_rfl)) (by unfold Func.isWrapper; first | (rw [if_pos (by decide +kernel)]; kernel_rfl) | (rw [if_neg (by decide +kernel)]; exact ⟨rfl, rfl⟩))
    (fun os started H enc _ => lifted os started H enc)
end treeBlanks
/-- The given card. -/
theorem treeBlanks_holds : Rows.TreeBlanksCardSaid :=
  Claim7.holds_tied_plain_at .later [] _ _ _ _ treeBlanks.over (fun _ h => by cases h) (by kernel_rfl) (fun _ h => by cases h) treeBlanks_row_tie rfl ⟨rfl, rfl⟩ (by kernel_rfl) rfl
    (fun f fn hf hfn => by
      obtain rfl : f = 3 := Option.some.inj ((show Tryd.prog.funcNamed "carrel/carrellaw09.TreeBlanks" = some 3 by kernel_rfl).symm.trans hf) |>.symm
      obtain rfl : fn = Tryd.f3 := (Option.some.inj (Tryd.func3.symm.trans hfn)).symm
      exact ⟨by kernel_rfl, fun j t ht => by
        rw [Tryd.params3] at ht
        have hm : t ∈ [9, 22] := by simpa using Array.mem_of_getElem? ht
        have hall : ([9, 22].all fun u => !Tryd.prog.wantsStandIn u) = true := by kernel_rfl
        exact (show Tryd.prog.wantsStandIn t = false by simpa using List.all_eq_true.1 hall t hm)⟩)
    (by kernel_rfl)
#print axioms treeBlanks_holds
end Go.Proofs.YtllhcjmabhempaaDoor
