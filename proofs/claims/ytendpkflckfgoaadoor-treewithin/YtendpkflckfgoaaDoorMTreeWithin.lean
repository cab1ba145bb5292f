/-
  Layer 9, plain: the tokens of a source. Nothing of the program's run is in this text but the names of what it answers.
  Layer 9, plain: an expression within a module. Nothing of the program's run is in this text but the names of what it answers.
  Layer 9, plain: an expression is read within a module as it is alone. Nothing of the program's run is in this text but the names of what it answers.
  Layer 9, plain: trees that are read have as many parts at a node, at most, as there are tokens.
  Layer 9: Same, of two trees that are alike but for places, asked without places.
  Layer 9: the laws' head.
  Layer 9: the walk of TreeWithin.
  From what the program's text lays into the tables of keywords and signs to how they lie; the way from a contract to a row; texts that came in.
  Proved: for every text the law TreeWithin returns true, where the tables of keywords and signs hold what their initialisers lay: an expression is read alone as it is within a module, but for places. No other condition.
-/
import Derived.Test.YtendpkflckfgoaaDoorMWhm
import Derived.Test.YtendpkflckfgoaaDoorMPgc
import Derived.Test.YtendpkflckfgoaaDoorDsg
import Derived.Test.YtendpkflckfgoaaDoorIdx
import Derived.Test.YtendpkflckfgoaaDoorTkn
import Derived.Test.YtendpkflckfgoaaDoorTie
import Derived.Test.YtendpkflckfgoaaDoorCards
import Derived.SliceStrings
import Derived.MakeChecks
import Derived.Lay
import Derived.LaidMore
import Derived.SevenTiedAt
import Derived.JoinedOf
import Derived.ChangeSame
import Derived.Handed
import Derived.SizedLaws
import Derived.ChangeOld
import Derived.Below
import Derived.Shelf.Vars
import Derived.ChangeMaps5
namespace Go.Proofs.YtendpkflckfgoaaDoor
set_option linter.unusedVariables false
set_option linter.unusedSimpArgs false

theorem good_ts (l : Bs) (h : (allP l).e = 0) : GoodT (allP l).ts := by
  obtain ⟨d, x, e1, e2, _⟩ := allP_shape l h
  have hl := allP_last l h
  refine ⟨by rw [e1]; simp, fun y r ⟨a, ha⟩ hk => ?_⟩
  have hq : a.length < (allP l).ts.length := by rw [← ha]; simp
  have hy : (allP l).ts[a.length] = y := by
    have h2 : (allP l).ts[a.length]? = some y := by rw [← ha]; simp
    rw [List.getElem?_eq_getElem hq] at h2
    exact Option.some.inj h2
  have := hl a.length hq (by rw [hy]; exact hk)
  rw [← ha] at this
  intro e
  rw [e] at this
  simp at this
theorem short (l : Bs) (h : (allP l).e = 0) : l.length ≤ 16384 := by
  by_cases hl : l.length ≤ 16384
  · exact hl
  · unfold allP at h; rw [if_pos (by omega)] at h; simp at h
end Go.Proofs.YtendpkflckfgoaaDoor

namespace Go.Proofs.YtendpkflckfgoaaDoor
set_option linter.unusedVariables false
set_option linter.unusedSimpArgs false

def TT : Nat → Nat → Prop := fun _ _ => True
theorem TksL.lift {a b : List Tok} : TksL false TT a b → TksL true TT a b := by
  intro h
  induction h with
  | nil => exact .nil
  | cons h _ ih =>
    obtain ⟨hp, h | ⟨e, _⟩⟩ := h
    · exact .cons ⟨hp, .inl h⟩ ih
    · cases e
theorem TksL.app {ex : Bool} {Pl : Nat → Nat → Prop} {a b : List Tok} (h : TksL ex Pl a b) : ∀ {c d : List Tok}, TksL ex Pl c d → TksL ex Pl (a ++ c) (b ++ d) := by
  induction h with
  | nil => intro c d h; exact h
  | cons h _ ih => intro c d h2; exact .cons h (ih h2)
theorem TksL.length {ex : Bool} {Pl : Nat → Nat → Prop} {a b : List Tok} (h : TksL ex Pl a b) : a.length = b.length := by
  induction h with
  | nil => rfl
  | cons _ _ ih => simp [ih]
theorem TksL.dropLast {ex : Bool} {Pl : Nat → Nat → Prop} {a b : List Tok} (h : TksL ex Pl a b) : TksL ex Pl a.dropLast b.dropLast := by
  induction h with
  | nil => exact .nil
  | cons h r ih =>
    cases r with
    | nil => exact .nil
    | cons h2 r2 => exact .cons h ih
/-- A text is read the same wherever it stands, but for places. -/
theorem goX_shift : ∀ (n p q : Nat) (l : Bs), l.length ≤ n → (goX p l).e = (goX q l).e ∧ ((goX p l).e = 0 → TksL false TT (goX p l).ts (goX q l).ts) := by
  intro n
  induction n with
  | zero =>
    intro p q l hl
    have : l = [] := List.eq_nil_of_length_eq_zero (by omega)
    subst this
    rw [goX_end p [] rfl rfl, goX_end q [] rfl rfl]
    exact ⟨rfl, fun _ => .cons ⟨trivial, .inl ⟨rfl, rfl, rfl⟩⟩ .nil⟩
  | succ n ih =>
    intro p q l hl
    obtain ⟨r, hr⟩ : ∃ r, firstP (l.drop (skip l)) = r := ⟨_, rfl⟩
    by_cases h0 : r.e = 0
    · by_cases hk : r.k = 0
      · rw [goX_end p l (by rw [hr]; exact h0) (by rw [hr]; exact hk), goX_end q l (by rw [hr]; exact h0) (by rw [hr]; exact hk)]
        exact ⟨rfl, fun _ => .cons ⟨trivial, .inl ⟨rfl, rfl, rfl⟩⟩ .nil⟩
      · obtain ⟨g, g2, g3⟩ := goX_step p l r hr h0 hk
        obtain ⟨k, _, _⟩ := goX_step q l r hr h0 hk
        obtain ⟨i1, i2⟩ := ih (p + skip l + r.len) (q + skip l + r.len) (l.drop (skip l + r.len)) (by rw [List.length_drop]; omega)
        rw [g, k]
        unfold Al.pre
        by_cases he : (goX (p + skip l + r.len) (l.drop (skip l + r.len))).e = 0
        · rw [if_pos he, if_pos (by rw [← i1]; exact he)]
          exact ⟨i1, fun _ => .cons ⟨trivial, .inl ⟨rfl, rfl, rfl⟩⟩ (i2 he)⟩
        · rw [if_neg he, if_neg (by rw [← i1]; exact he)]
          exact ⟨i1, fun h => absurd h he⟩
    · rw [goX_bad p l r.e (by rw [hr]) h0, goX_bad q l r.e (by rw [hr]) h0]
      exact ⟨rfl, fun h => absurd h h0⟩
/-- No token but the last is the end. -/
theorem goX_kinds : ∀ (n p : Nat) (l : Bs), l.length ≤ n → (goX p l).e = 0 → ∃ d x, (goX p l).ts = d ++ [x] ∧ x.k = 0 ∧ x.t = [] ∧ ∀ y ∈ d, y.k ≠ 0 := by
  intro n
  induction n with
  | zero =>
    intro p l hl _
    have : l = [] := List.eq_nil_of_length_eq_zero (by omega)
    subst this
    rw [goX_end p [] rfl rfl]
    exact ⟨[], _, rfl, rfl, rfl, fun y h => by cases h⟩
  | succ n ih =>
    intro p l hl he
    obtain ⟨r, hr⟩ : ∃ r, firstP (l.drop (skip l)) = r := ⟨_, rfl⟩
    by_cases h0 : r.e = 0
    · by_cases hk : r.k = 0
      · rw [goX_end p l (by rw [hr]; exact h0) (by rw [hr]; exact hk)]
        exact ⟨[], _, rfl, rfl, rfl, fun y h => by cases h⟩
      · obtain ⟨g, g2, g3⟩ := goX_step p l r hr h0 hk
        rw [g] at he ⊢
        unfold Al.pre at he ⊢
        split at he
        · rename_i h1
          obtain ⟨d, x, e1, e2, e3, e4⟩ := ih _ (l.drop (skip l + r.len)) (by rw [List.length_drop]; omega) h1
          rw [if_pos h1]
          refine ⟨_ :: d, x, by rw [e1]; rfl, e2, e3, fun y hy => ?_⟩
          rcases List.mem_cons.1 hy with rfl | hy
          · exact hk
          · exact e4 y hy
        · rename_i h1; exact absurd he h1
    · rw [goX_bad p l r.e (by rw [hr]) h0] at he
      exact absurd he h0
def preL : Bs := [77, 79, 68, 85, 76, 69, 32, 65, 59, 32, 66, 69, 71, 73, 78, 32, 120, 32, 58, 61]
def sufL : Bs := [69, 78, 68, 32, 65, 46]
def inL (l : Bs) : Bs := preL ++ 32 :: (l ++ 32 :: sufL)
def preT : List Tok := [⟨2, [77, 79, 68, 85, 76, 69], 0, 0⟩, ⟨1, [65], 0, 7⟩, ⟨6, [59], 0, 8⟩, ⟨2, [66, 69, 71, 73, 78], 0, 10⟩, ⟨1, [120], 0, 16⟩, ⟨6, [58, 61], 0, 18⟩]
theorem pre_read : goX 0 preL = ⟨preT ++ [⟨0, [], 0, 20⟩], 0, 0⟩ := by kernel_rfl
theorem suf_read : goX 0 (32 :: sufL) = ⟨[⟨2, [69, 78, 68], 0, 1⟩, ⟨1, [65], 0, 5⟩, ⟨6, [46], 0, 6⟩, ⟨0, [], 0, 7⟩], 0, 0⟩ := by kernel_rfl
/-- The tokens of an expression within a module. -/
theorem in_read (l : Bs) (h : (allP l).e = 0) (hl : (inL l).length ≤ 16384) : (allP (inL l)).e = 0 ∧ ∃ D D' x a b c d, (allP l).ts = D ++ [x] ∧ x.k = 0 ∧ (∀ y ∈ D, y.k ≠ 0) ∧ TksL false TT D D' ∧ (allP (inL l)).ts = preT ++ (D' ++ [⟨2, [69, 78, 68], 0, a⟩, ⟨1, [65], 0, b⟩, ⟨6, [46], 0, c⟩, ⟨0, [], 0, d⟩]) := by
  have hs := short l h
  rw [allP_goX l hs] at h ⊢
  obtain ⟨D, x, e1, e2, e3, e4⟩ := goX_kinds _ 0 l (Nat.le_refl _) h
  rw [allP_goX _ hl]
  have s1 := goX_shift _ 0 21 l (Nat.le_refl _)
  have s2 := s1.2 h
  have g21 : goX 20 (32 :: l) = goX 21 l := by
    have hb : blk 32 = true := by decide
    refine goX_same _ _ _ _ (by rw [skip_blk hb]; omega) ?_
    rw [skip_blk hb, Nat.add_comm, List.drop_succ_cons]
  have h21 : (goX 20 (32 :: l)).e = 0 := by rw [g21, ← s1.1]; exact h
  have hP : goX 0 (inL l) = (goX 20 (32 :: (l ++ 32 :: sufL))).pre preT := by
    unfold inL
    rw [goX_app (l ++ 32 :: sufL) _ 0 preL (Nat.le_refl _) (by rw [pre_read]), pre_read]
    rfl
  have hI : goX 20 (32 :: (l ++ 32 :: sufL)) = (goX (20 + (32 :: l).length) (32 :: sufL)).pre (goX 20 (32 :: l)).ts.dropLast := goX_app sufL _ 20 (32 :: l) (Nat.le_refl _) h21
  have s3 := goX_shift _ 0 (20 + (32 :: l).length) (32 :: sufL) (Nat.le_refl _)
  have h4 : (goX (20 + (32 :: l).length) (32 :: sufL)).e = 0 := by rw [← s3.1, suf_read]
  have s4 := s3.2 (by rw [suf_read])
  rw [suf_read] at s4
  generalize goX (20 + (32 :: l).length) (32 :: sufL) = SF at s4 h4 hI
  have hI2 : (goX 20 (32 :: (l ++ 32 :: sufL))).e = 0 ∧ (goX 20 (32 :: (l ++ 32 :: sufL))).ts = (goX 20 (32 :: l)).ts.dropLast ++ SF.ts := by
    rw [hI]; unfold Al.pre; rw [if_pos h4]; exact ⟨h4, rfl⟩
  rw [hP]
  unfold Al.pre
  rw [if_pos hI2.1]
  refine ⟨hI2.1, ?_⟩
  rw [hI2.2, g21]
  have d1 := s2.dropLast
  rw [e1, List.dropLast_concat] at d1
  clear hI hI2 hP
  generalize SF.ts = st at s4 ⊢
  cases s4 with | @cons _ y1 _ b1 k1 r1 =>
  cases r1 with | @cons _ y2 _ b2 k2 r2 =>
  cases r2 with | @cons _ y3 _ b3 k3 r3 =>
  cases r3 with | @cons _ y4 _ b4 k4 r4 =>
  cases r4 with | nil =>
  obtain ⟨_, ⟨a1, a2, a3⟩ | ⟨e, _⟩⟩ := k1
  · obtain ⟨_, ⟨c1, c2, c3⟩ | ⟨e, _⟩⟩ := k2
    · obtain ⟨_, ⟨f1, f2, f3⟩ | ⟨e, _⟩⟩ := k3
      · obtain ⟨_, ⟨i1, i2, i3⟩ | ⟨e, _⟩⟩ := k4
        · refine ⟨D, (goX 21 l).ts.dropLast, x, y1.p, y2.p, y3.p, y4.p, e1, e2, e4, d1, ?_⟩
          cases y1; cases y2; cases y3; cases y4
          simp only at a1 a2 a3 c1 c2 c3 f1 f2 f3 i1 i2 i3
          subst a1 a2 a3 c1 c2 c3 f1 f2 f3 i1 i2 i3
          rfl
        · cases e
      · cases e
    · cases e
  · cases e
end Go.Proofs.YtendpkflckfgoaaDoor

namespace Go.Proofs.YtendpkflckfgoaaDoor
set_option linter.unusedVariables false
set_option linter.unusedSimpArgs false

/-- A reader that refuses with no error 0. -/
inductive ErP {α : Type} : Pg α → Prop
  | ret (a : α) : ErP (.ret a)
  | fail {e : Int} : e ≠ 0 → ErP (.fail e)
  | out : ErP .out
  | len {k : Nat → Pg α} : (∀ n, ErP (k n)) → ErP (.len k)
  | look {k : Tok → Pg α} : (∀ x, ErP (k x)) → ErP (.look k)
  | eat {c : Tok → Bool} {X : Tok → Pg α} {Y : Pg α} : (∀ x, ErP (X x)) → ErP Y → ErP (.eat c X Y)
theorem ErP.bind {α β : Type} {p : Pg α} {f : α → Pg β} (h : ErP p) (hf : ∀ a, ErP (f a)) : ErP (p.bind f) := by
  induction h with
  | ret a => exact hf a
  | fail he => exact .fail he
  | out => exact .out
  | look _ ih => exact .look ih
  | len _ ih => exact .len ih
  | eat _ _ ih1 ih2 => exact .eat ih1 ih2
theorem ErP.zero {α : Type} {p : Pg α} (h : ErP p) : ∀ t q, exec p t = .bad q 0 → q = 0 := by
  induction h with
  | ret a => intro t q e; cases e
  | fail he => intro t q e; injection e with _ e; exact absurd e he
  | out => intro t q e; injection e with e _; exact e.symm
  | look _ ih => intro t q e; exact ih _ t q e
  | len _ ih => intro t q e; exact ih _ t q e
  | eat _ _ ih1 ih2 =>
    intro t q e
    simp only [exec] at e
    split at e
    · exact ih1 _ _ q e
    · exact ih2 _ q e
section
variable {α : Type} {X : Tok → Pg α} {Y Z : Pg α} {s : Bs} {k : Int} {o : Nat}
theorem ErP.eatW (hX : ∀ x, ErP (X x)) (hY : ErP Y) : ErP (eatW s X Y) := .eat hX hY
theorem ErP.eatK (hX : ∀ x, ErP (X x)) (hY : ErP Y) : ErP (eatK k X Y) := .eat hX hY
theorem ErP.eatR (hX : ∀ x, ErP (X x)) (hY : ErP Y) : ErP (eatR k X Y) := .eat hX hY
theorem ErP.seeW (hZ : ErP Z) (hY : ErP Y) : ErP (seeW s Z Y) := .look fun x => by split; exact hZ; exact hY
theorem ErP.seeK (hZ : ErP Z) (hY : ErP Y) : ErP (seeK k Z Y) := .look fun x => by split; exact hZ; exact hY
theorem ErP.opn (hX : ∀ x, ErP (X x)) (hY : ErP Y) : ErP (opnP s o X Y) := by
  unfold opnP
  split
  · exact .look fun x => by split; exact .fail (by decide); exact hY
  · exact .eatW hX hY
theorem ErP.must : ErP (mustP s) := .eatW (fun _ => .ret _) (.fail (by decide))
theorem ErP.name : ErP nameQ := .eatK (fun _ => .ret _) (.fail (by decide))
end
theorem er_run : ∀ (f : Nat) (nt : NT) (o : Nat), ErP (runP f nt o) := by
  intro f
  induction f with
  | zero => intro nt o; cases nt <;> exact .out
  | succ f ih =>
    intro nt o
    cases nt <;> simp only [runP]
    all_goals
      repeat' first
        | exact ErP.ret _
        | exact ErP.fail (by decide)
        | exact ErP.name
        | exact ErP.must
        | exact ih _ _
        | refine ErP.bind ?_ ?_
        | refine ErP.eatR ?_ ?_
        | refine ErP.eatW ?_ ?_
        | refine ErP.eatK ?_ ?_
        | refine ErP.opn ?_ ?_
        | refine ErP.seeW ?_ ?_
        | refine ErP.seeK ?_ ?_
        | refine ErP.look ?_
        | intro _
theorem expr_in {D D' B : List Tok} {x : Tok} {n : Nd} {r : List Tok} {a : Nat} (hx : x.k = 0) (hD : ∀ y ∈ D, y.k ≠ 0) (hDD : TksL false TT D D') (g1 : GoodT (D ++ [x])) (g2 : GoodT (D' ++ ⟨2, [69, 78, 68], 0, a⟩ :: B))
    (h : run ((D ++ [x]).length * 40 + 40) .expr 0 (D ++ [x]) = .ok n r) (hr : (hd r).k = 0) : ∃ n', exprR 0 (D' ++ ⟨2, [69, 78, 68], 0, a⟩ :: B) = .ok n' (⟨2, [69, 78, 68], 0, a⟩ :: B) ∧ NdL TT n n' := by
  have hA : TksL true TT (D ++ [x]) (D' ++ [⟨2, [69, 78, 68], 0, a⟩]) := hDD.lift.app (.cons ⟨trivial, .inr ⟨rfl, hx, rfl, rfl⟩⟩ .nil)
  have e2 : D' ++ ⟨2, [69, 78, 68], 0, a⟩ :: B = (D' ++ [⟨2, [69, 78, 68], 0, a⟩]) ++ B := by simp
  have g1' : GoodT ((D ++ [x]) ++ []) := by rw [List.append_nil]; exact g1
  have g2' : GoodT ((D' ++ [⟨2, [69, 78, 68], 0, a⟩]) ++ B) := by rw [← e2]; exact g2
  have ok2 := ok_run ((D' ++ ⟨2, [69, 78, 68], 0, a⟩ :: B).length * 40 + 20) .expr 0 trivial
  have HL := loc_exec (pl_run (ex := true) (Pl := TT) trivial ((D ++ [x]).length * 40 + 40) ((D' ++ ⟨2, [69, 78, 68], 0, a⟩ :: B).length * 40 + 20) .expr .expr 0 .expr) (ok_run _ _ _ trivial) ok2 [] B hA (by simp) g1' g2'
  rw [exec_run, exec_run, List.append_nil, ← e2, h] at HL
  have es := ok2.esc _ g2
  rw [exec_run] at es
  unfold exprR
  rcases HL with ⟨m, m', C, C', h1, h2, h3, h4, h5, h6⟩ | ⟨_, _, _, h1, _⟩ | h1 | ⟨h1, _⟩
  · injection h1 with h1 hC
    rw [List.append_nil] at hC
    subst h1 hC
    have hC1 : ∃ y, r = [y] := by
      cases r with
      | nil => exact absurd rfl h5
      | cons y s =>
        obtain ⟨pre, hp⟩ := h6
        cases hs : s with
        | nil => exact ⟨y, rfl⟩
        | cons z s2 =>
          exfalso
          rw [hs] at hp
          have hm : y ∈ D := by
            have e3 : D = pre ++ (y :: (z :: s2).dropLast) := by
              have := congrArg List.dropLast hp
              rw [List.dropLast_concat] at this
              rw [← this, List.dropLast_append_of_ne_nil (by simp)]
              rfl
            rw [e3]; simp
          exact hD y hm hr
    obtain ⟨y, rfl⟩ := hC1
    have hl := h4.length
    rw [h2] at es ⊢
    have hsuf := es.2
    have hC2 : C' ++ B = ⟨2, [69, 78, 68], 0, a⟩ :: B := by
      have s1 : (C' ++ B) <:+ (D' ++ ⟨2, [69, 78, 68], 0, a⟩ :: B) := hsuf
      have s2 : (⟨2, [69, 78, 68], 0, a⟩ :: B) <:+ (D' ++ ⟨2, [69, 78, 68], 0, a⟩ :: B) := List.suffix_append _ _
      have hlen : (C' ++ B).length = (⟨2, [69, 78, 68], 0, a⟩ :: B : List Tok).length := by rw [List.length_append, ← hl]; simp; omega
      exact (List.suffix_of_suffix_length_le s1 s2 (by omega)).eq_of_length hlen
    rw [hC2]
    exact ⟨m', rfl, h3⟩
  · cases h1
  · rcases h1 with h1 | h1
    · cases h1
    · exact False.elim <| en_run ((D' ++ ⟨2, [69, 78, 68], 0, a⟩ :: B).length * 40 + 20) .expr 0 (D' ++ ⟨2, [69, 78, 68], 0, a⟩ :: B).length trivial (by simp only [lw]; omega) (D' ++ ⟨2, [69, 78, 68], 0, a⟩ :: B) g2 (Nat.le_refl _) (by rw [exec_run]; exact h1)
  · exact absurd (List.suffix_nil.1 h1.2) h1.1
theorem block_in (R0 B : List Tok) (n' : Nd) (a : Nat) (h : exprR 0 R0 = .ok n' (⟨2, [69, 78, 68], 0, a⟩ :: B)) :
    blockR 0 (⟨1, [120], 0, 16⟩ :: ⟨6, [58, 61], 0, 18⟩ :: R0) = .ok (.mk 16 [] 0 false [.mk 17 [] 0 false [.mk 31 [120] 0 false [] 16, n'] 16] 16) (⟨2, [69, 78, 68], 0, a⟩ :: B) := by
  have W1 : ∀ R : List Tok, wd (⟨6, [58, 61], 0, 18⟩ :: R) = [58, 61] := fun R => by simp [wd, hd]
  have W2 : ∀ R : List Tok, wd (⟨2, [69, 78, 68], 0, a⟩ :: R) = [69, 78, 68] := fun R => by simp [wd, hd]
  have hd1 : desigR 0 (⟨1, [120], 0, 16⟩ :: ⟨6, [58, 61], 0, 18⟩ :: R0) = .ok (.mk 31 [120] 0 false [] 16) (⟨6, [58, 61], 0, 18⟩ :: R0) := by
    unfold desigR
    rw [show (⟨1, [120], 0, 16⟩ :: ⟨6, [58, 61], 0, 18⟩ :: R0 : List Tok).length * 40 + 10 = (R0.length * 40 + 88) + 1 + 1 by simp; omega, run]
    show run _ _ _ _ = _
    rw [run, if_neg (by rw [show (List.tail (⟨1, [120], 0, 16⟩ :: ⟨6, [58, 61], 0, 18⟩ :: R0)) = ⟨6, [58, 61], 0, 18⟩ :: R0 from rfl, W1]; decide), if_neg (by rw [show (List.tail (⟨1, [120], 0, 16⟩ :: ⟨6, [58, 61], 0, 18⟩ :: R0)) = ⟨6, [58, 61], 0, 18⟩ :: R0 from rfl, W1]; decide), if_neg (by rw [show (List.tail (⟨1, [120], 0, 16⟩ :: ⟨6, [58, 61], 0, 18⟩ :: R0)) = ⟨6, [58, 61], 0, 18⟩ :: R0 from rfl, W1]; decide), if_neg (by rw [show (List.tail (⟨1, [120], 0, 16⟩ :: ⟨6, [58, 61], 0, 18⟩ :: R0)) = ⟨6, [58, 61], 0, 18⟩ :: R0 from rfl, W1]; decide)]
    rfl
  unfold blockR
  rw [show (⟨1, [120], 0, 16⟩ :: ⟨6, [58, 61], 0, 18⟩ :: R0 : List Tok).length * 4 + 4 = (R0.length * 4 + 10) + 1 + 1 by simp; omega, runS, if_pos (.inl rfl), runS, if_pos (show (hd (⟨1, [120], 0, 16⟩ :: ⟨6, [58, 61], 0, 18⟩ :: R0)).k = 1 from rfl), hd1, Rs.bind_ok, if_pos (W1 R0)]
  show (((exprR 0 R0).bind fun y s => Rs.ok (Nd.mk 17 [] 0 false [.mk 31 [120] 0 false [] 16, y] 16) s).bind _).bind _ = _
  rw [h, Rs.bind_ok, Rs.bind_ok, if_neg (by rw [W2]; decide)]
  rfl
theorem module_in (R0 : List Tok) (n' : Nd) (a b c d : Nat) (h : exprR 0 R0 = .ok n' [⟨2, [69, 78, 68], 0, a⟩, ⟨1, [65], 0, b⟩, ⟨6, [46], 0, c⟩, ⟨0, [], 0, d⟩]) :
    moduleR (preT ++ R0) = .ok (.mk 1 [65] 0 false [.mk 16 [] 0 false [.mk 17 [] 0 false [.mk 31 [120] 0 false [] 16, n'] 16] 16] 0) [⟨0, [], 0, d⟩] := by
  have hb := block_in R0 _ n' a h
  rw [module_eq]
  show mo1 [65] 0 (⟨2, [66, 69, 71, 73, 78], 0, 10⟩ :: ⟨1, [120], 0, 16⟩ :: ⟨6, [58, 61], 0, 18⟩ :: R0) = _
  have s1 : ∀ (key : Bs) (part : List Tok → Rs Nd), key ≠ [66, 69, 71, 73, 78] → sectR key part (⟨2, [66, 69, 71, 73, 78], 0, 10⟩ :: ⟨1, [120], 0, 16⟩ :: ⟨6, [58, 61], 0, 18⟩ :: R0) = .ok (lst []) (⟨2, [66, 69, 71, 73, 78], 0, 10⟩ :: ⟨1, [120], 0, 16⟩ :: ⟨6, [58, 61], 0, 18⟩ :: R0) := fun key part hk => by
    unfold sectR
    rw [if_neg]
    intro e
    exact hk e.symm
  have WB : wd (⟨2, [66, 69, 71, 73, 78], 0, 10⟩ :: ⟨1, [120], 0, 16⟩ :: ⟨6, [58, 61], 0, 18⟩ :: R0) = [66, 69, 71, 73, 78] := by simp [wd, hd]
  unfold mo1
  rw [if_neg (by rw [WB]; decide)]
  unfold mo2
  rw [s1 _ _ (by decide), Rs.bind_ok]
  unfold mo3
  rw [s1 _ _ (by decide), Rs.bind_ok]
  unfold mo4
  rw [s1 _ _ (by decide), Rs.bind_ok]
  unfold mo5
  rw [procsR, if_neg (by rw [WB]; decide), Rs.bind_ok]
  unfold mo6
  rw [if_pos WB]
  show ((blockR 0 (⟨1, [120], 0, 16⟩ :: ⟨6, [58, 61], 0, 18⟩ :: R0)).bind _) = _
  rw [hb, Rs.bind_ok]
  rfl
/-- An expression within a module: what is read. -/
theorem within_plain (l : Bs) (he : (ansP .expr l).2.2 = 0) (hl : (inL l).length ≤ 16384) :
    ∃ n', ansM (inL l) = (.mk 1 [65] 0 false [.mk 16 [] 0 false [.mk 17 [] 0 false [.mk 31 [120] 0 false [] 16, n'] 16] 16] 0, 0, 0) ∧ NdL TT (ansP .expr l).1 n' := by
  unfold ansP at he ⊢
  by_cases h : (allP l).e = 0
  · rw [if_neg (by rw [h]; simp)] at he ⊢
    obtain ⟨i1, D, D', x, a, b, c, d, t1, t2, t3, t4, t5⟩ := in_read l h hl
    have g1 := good_ts l h
    have g2 := good_ts _ i1
    have es := (ok_run ((allP l).ts.length * 40 + 40) .expr 0 trivial).esc _ g1
    have en := en_run ((allP l).ts.length * 40 + 40) .expr 0 (allP l).ts.length trivial (by simp only [lw]; omega) _ g1 (Nat.le_refl _)
    rw [exec_run] at es en
    cases hm : run ((allP l).ts.length * 40 + 40) .expr 0 (allP l).ts with
    | bad q e =>
      exfalso
      rw [hm] at he es en
      simp only at he
      subst he
      have hz := (er_run ((allP l).ts.length * 40 + 40) .expr 0).zero (allP l).ts q (by rw [exec_run]; exact hm)
      exact en (by rw [hz])
    | ok n r =>
      rw [hm] at he
      simp only at he ⊢
      by_cases hk : (hd r).k = 0
      · rw [if_pos hk]
        rw [t1] at hm g1
        rw [t5] at g2
        obtain ⟨n', h1, h2⟩ := expr_in t2 t3 t4 g1 (g2.sf ⟨by simp, List.suffix_append _ _⟩) hm hk
        refine ⟨n', ?_, h2⟩
        unfold ansM
        rw [if_neg (by rw [i1]; simp), t5, module_in _ n' a b c d h1]
        rfl
      · rw [if_neg hk] at he
        simp at he
  · rw [if_pos h] at he
    exact absurd he h
end Go.Proofs.YtendpkflckfgoaaDoor

namespace Go.Proofs.YtendpkflckfgoaaDoor
set_option linter.unusedVariables false
set_option linter.unusedSimpArgs false

inductive Kb (B : Nat) : Nd → Prop
  | mk (k : Int) (t : Bs) (n : Int) (f : Bool) (kids : List Nd) (p : Nat) (hl : kids.length ≤ B) (hk : ∀ x ∈ kids, Kb B x) : Kb B (.mk k t n f kids p)
theorem Kb.len {B : Nat} {n : Nd} (h : Kb B n) : n.kids.length ≤ B := by cases h; assumption
theorem Kb.all {B : Nat} {n : Nd} (h : Kb B n) : ∀ x ∈ n.kids, Kb B x := by cases h; assumption
theorem Kb.zero {B : Nat} (k : Int) (t : Bs) (n : Int) (f : Bool) (p : Nat) : Kb B (.mk k t n f [] p) := .mk k t n f [] p (Nat.zero_le _) (by simp)
theorem Kb.one {B : Nat} {x : Nd} (hB : 2 ≤ B) (hx : Kb B x) (k : Int) (t : Bs) (n : Int) (f : Bool) (p : Nat) : Kb B (.mk k t n f [x] p) := .mk k t n f [x] p (by simp; omega) (by simpa using hx)
theorem Kb.two {B : Nat} {x y : Nd} (hB : 2 ≤ B) (hx : Kb B x) (hy : Kb B y) (k : Int) (t : Bs) (n : Int) (f : Bool) (p : Nat) : Kb B (.mk k t n f [x, y] p) := .mk k t n f [x, y] p (by simpa using hB) (by simp; exact ⟨hx, hy⟩)
theorem Kb.idx {B : Nat} (hB : 2 ≤ B) (p : Nat) : ∀ (l : List Nd) (a : Nd), Kb B a → (∀ x ∈ l, Kb B x) → Kb B (idxN p a l)
  | [], a, ha, _ => ha
  | x :: r, a, ha, h => Kb.idx hB p r _ (Kb.two hB ha (h x (by simp)) 33 [] 0 false p) (fun y hy => h y (by simp [hy]))
def ntB (B : Nat) : NT → Prop
  | .simpleL l => Kb B l
  | .termL l => Kb B l
  | .desigL l => Kb B l
  | .row s p acc => s ≠ [] ∧ (∀ x ∈ acc, Kb B x) ∧ ntB B p ∧ (p = .expr ∨ p = .elem)
  | _ => True
def acL : NT → Nat
  | .row _ _ acc => acc.length
  | _ => 0
theorem wd_len {t : List Tok} (h : wd t ≠ []) : 1 ≤ t.length := by
  cases t with
  | nil => exact absurd rfl h
  | cons a r => simp
theorem name_len {t : List Tok} {x : Tok} {r : List Tok} (h : nameR t = .ok x r) : r = t.tail := by
  unfold nameR at h; split at h
  · simp only [Rs.ok.injEq] at h; exact h.2.symm
  · cases h
theorem must_len {s : Bs} {t : List Tok} {x : Tok} {r : List Tok} (h : mustR s t = .ok x r) : r = t.tail := by
  unfold mustR at h; split at h
  · simp only [Rs.ok.injEq] at h; exact h.2.symm
  · cases h
theorem begin_len {o : Nat} {t : List Tok} {x : Tok} {r : List Tok} (h : beginR o t = .ok x r) : r = t.tail := by
  unfold beginR at h; split at h
  · cases h
  · simp only [Rs.ok.injEq] at h; exact h.2.symm
theorem bind_inv {α β : Type} {x : Rs α} {f : α → List Tok → Rs β} {b : β} {r : List Tok} (h : x.bind f = .ok b r) : ∃ a s, x = .ok a s ∧ f a s = .ok b r := by
  cases x with
  | ok a s => exact ⟨a, s, rfl, h⟩
  | bad p e => cases h
theorem run_small (B : Nat) (hB : 2 ≤ B) : ∀ (f : Nat) (nt : NT) (o : Nat) (t : List Tok) (n : Nd) (r : List Tok), run f nt o t = .ok n r → ntB B nt → acL nt + t.length + 1 ≤ B → Kb B n ∧ r.length ≤ t.length ∧ (∀ s p acc, nt = .row s p acc → n.kids.length ≤ acc.length + t.length + 1) := by
  intro f
  induction f with
  | zero => intro nt o t n r h; cases h
  | succ f ih =>
    intro nt o t n r h hn hl
    have tl := List.length_tail (l := t)
    cases nt with
    | expr =>
      rw [run] at h
      obtain ⟨l, s, h1, h2⟩ := bind_inv h
      obtain ⟨k1, z1, _⟩ := ih _ _ _ _ _ h1 trivial hl
      have zt := List.length_tail (l := s)
      split at h2
      · obtain ⟨y, u, h3, h4⟩ := bind_inv h2
        obtain ⟨k2, z2, _⟩ := ih _ _ _ _ _ h3 trivial (by simp only [acL] at hl ⊢; omega)
        simp only [Rs.ok.injEq] at h4
        obtain ⟨rfl, rfl⟩ := h4
        exact ⟨Kb.two hB k1 k2 _ _ _ _ _, by omega, fun _ _ _ e => by cases e⟩
      · simp only [Rs.ok.injEq] at h2
        obtain ⟨rfl, rfl⟩ := h2
        exact ⟨k1, z1, fun _ _ _ e => by cases e⟩
    | simple =>
      rw [run] at h
      obtain ⟨l, s, h1, h2⟩ := bind_inv h
      obtain ⟨k1, z1, _⟩ := ih _ _ _ _ _ h1 trivial hl
      obtain ⟨k2, z2, _⟩ := ih _ _ _ _ _ h2 k1 (by simp only [acL] at hl ⊢; omega)
      exact ⟨k2, by omega, fun _ _ _ e => by cases e⟩
    | simpleL l =>
      rw [run] at h
      split at h
      · obtain ⟨y, s, h1, h2⟩ := bind_inv h
        obtain ⟨k1, z1, _⟩ := ih _ _ _ _ _ h1 trivial (by simp only [acL] at hl ⊢; omega)
        obtain ⟨k2, z2, _⟩ := ih _ _ _ _ _ h2 (Kb.two hB hn k1 _ _ _ _ _) (by simp only [acL] at hl ⊢; omega)
        exact ⟨k2, by omega, fun _ _ _ e => by cases e⟩
      · simp only [Rs.ok.injEq] at h
        obtain ⟨rfl, rfl⟩ := h
        exact ⟨hn, Nat.le_refl _, fun _ _ _ e => by cases e⟩
    | first =>
      rw [run] at h
      split at h
      · obtain ⟨x, s, h1, h2⟩ := bind_inv h
        obtain ⟨y, u, h3, h4⟩ := bind_inv h2
        have e1 := begin_len h1
        subst e1
        obtain ⟨k1, z1, _⟩ := ih _ _ _ _ _ h3 trivial (by simp only [acL] at hl ⊢; omega)
        simp only [Rs.ok.injEq] at h4
        obtain ⟨rfl, rfl⟩ := h4
        exact ⟨Kb.one hB k1 _ _ _ _ _, by omega, fun _ _ _ e => by cases e⟩
      · obtain ⟨k1, z1, _⟩ := ih _ _ _ _ _ h trivial hl
        exact ⟨k1, z1, fun _ _ _ e => by cases e⟩
    | term =>
      rw [run] at h
      obtain ⟨l, s, h1, h2⟩ := bind_inv h
      obtain ⟨k1, z1, _⟩ := ih _ _ _ _ _ h1 trivial hl
      obtain ⟨k2, z2, _⟩ := ih _ _ _ _ _ h2 k1 (by simp only [acL] at hl ⊢; omega)
      exact ⟨k2, by omega, fun _ _ _ e => by cases e⟩
    | termL l =>
      rw [run] at h
      split at h
      · obtain ⟨y, s, h1, h2⟩ := bind_inv h
        obtain ⟨k1, z1, _⟩ := ih _ _ _ _ _ h1 trivial (by simp only [acL] at hl ⊢; omega)
        obtain ⟨k2, z2, _⟩ := ih _ _ _ _ _ h2 (Kb.two hB hn k1 _ _ _ _ _) (by simp only [acL] at hl ⊢; omega)
        exact ⟨k2, by omega, fun _ _ _ e => by cases e⟩
      · simp only [Rs.ok.injEq] at h
        obtain ⟨rfl, rfl⟩ := h
        exact ⟨hn, Nat.le_refl _, fun _ _ _ e => by cases e⟩
    | factor =>
      rw [run] at h
      by_cases c1 : (hd t).k = 1
      · rw [if_pos c1] at h
        obtain ⟨k1, z1, _⟩ := ih _ _ _ _ _ h trivial hl
        exact ⟨k1, z1, fun _ _ _ e => by cases e⟩
      rw [if_neg c1] at h
      by_cases d0 : (hd t).k = 3
      · rw [if_pos d0] at h
        simp only [Rs.ok.injEq] at h
        obtain ⟨rfl, rfl⟩ := h
        exact ⟨Kb.zero _ _ _ _ _, by omega, fun _ _ _ e => by cases e⟩
      rw [if_neg d0] at h
      by_cases d1 : (hd t).k = 4
      · rw [if_pos d1] at h
        simp only [Rs.ok.injEq] at h
        obtain ⟨rfl, rfl⟩ := h
        exact ⟨Kb.zero _ _ _ _ _, by omega, fun _ _ _ e => by cases e⟩
      rw [if_neg d1] at h
      by_cases d2 : (hd t).k = 5
      · rw [if_pos d2] at h
        simp only [Rs.ok.injEq] at h
        obtain ⟨rfl, rfl⟩ := h
        exact ⟨Kb.zero _ _ _ _ _, by omega, fun _ _ _ e => by cases e⟩
      rw [if_neg d2] at h
      by_cases d3 : wd t = [78, 73, 76]
      · rw [if_pos d3] at h
        simp only [Rs.ok.injEq] at h
        obtain ⟨rfl, rfl⟩ := h
        exact ⟨Kb.zero _ _ _ _ _, by omega, fun _ _ _ e => by cases e⟩
      rw [if_neg d3] at h
      by_cases d4 : wd t = [84, 82, 85, 69]
      · rw [if_pos d4] at h
        simp only [Rs.ok.injEq] at h
        obtain ⟨rfl, rfl⟩ := h
        exact ⟨Kb.zero _ _ _ _ _, by omega, fun _ _ _ e => by cases e⟩
      rw [if_neg d4] at h
      by_cases d5 : wd t = [70, 65, 76, 83, 69]
      · rw [if_pos d5] at h
        simp only [Rs.ok.injEq] at h
        obtain ⟨rfl, rfl⟩ := h
        exact ⟨Kb.zero _ _ _ _ _, by omega, fun _ _ _ e => by cases e⟩
      rw [if_neg d5] at h
      by_cases e0 : wd t = [126]
      · rw [if_pos e0] at h
        obtain ⟨x, s, h1, h2⟩ := bind_inv h
        obtain ⟨y, u, h3, h4⟩ := bind_inv h2
        have e1 := begin_len h1
        subst e1
        obtain ⟨k1, z1, _⟩ := ih _ _ _ _ _ h3 trivial (by simp only [acL] at hl ⊢; omega)
        simp only [Rs.ok.injEq] at h4
        obtain ⟨rfl, rfl⟩ := h4
        exact ⟨Kb.one hB k1 _ _ _ _ _, by omega, fun _ _ _ e => by cases e⟩
      rw [if_neg e0] at h
      by_cases e9 : wd t = [123]
      · rw [if_pos e9] at h
        obtain ⟨x, s, h1, h2⟩ := bind_inv h
        obtain ⟨y, u, h3, h4⟩ := bind_inv h2
        obtain ⟨z, v, h5, h6⟩ := bind_inv h4
        have e1 := begin_len h1
        have e2 := must_len h5
        subst e1
        subst e2
        have ut := List.length_tail (l := u)
        simp only [Rs.ok.injEq] at h6
        obtain ⟨rfl, rfl⟩ := h6
        split at h3
        · simp only [Rs.ok.injEq] at h3
          obtain ⟨rfl, rfl⟩ := h3
          exact ⟨Kb.zero _ _ _ _ _, by omega, fun _ _ _ e => by cases e⟩
        · obtain ⟨k1, z1, q1⟩ := ih _ _ _ _ _ h3 ⟨by decide, by simp, trivial, .inr rfl⟩ (by simp only [acL, List.length_nil] at hl ⊢; omega)
          exact ⟨.mk _ _ _ _ _ _ k1.len k1.all, by omega, fun _ _ _ e => by cases e⟩
      rw [if_neg e9] at h
      by_cases e8 : wd t = [40]
      · rw [if_pos e8] at h
        obtain ⟨x, s, h1, h2⟩ := bind_inv h
        obtain ⟨y, u, h3, h4⟩ := bind_inv h2
        obtain ⟨z, v, h5, h6⟩ := bind_inv h4
        have e1 := begin_len h1
        have e2 := must_len h5
        subst e1
        subst e2
        have ut := List.length_tail (l := u)
        simp only [Rs.ok.injEq] at h6
        obtain ⟨rfl, rfl⟩ := h6
        obtain ⟨k1, z1, _⟩ := ih _ _ _ _ _ h3 trivial (by simp only [acL] at hl ⊢; omega)
        exact ⟨k1, by omega, fun _ _ _ e => by cases e⟩
      rw [if_neg e8] at h
      cases h
    | elem =>
      rw [run] at h
      obtain ⟨l, s, h1, h2⟩ := bind_inv h
      obtain ⟨k1, z1, _⟩ := ih _ _ _ _ _ h1 trivial hl
      have zt := List.length_tail (l := s)
      split at h2
      · obtain ⟨y, u, h3, h4⟩ := bind_inv h2
        obtain ⟨k2, z2, _⟩ := ih _ _ _ _ _ h3 trivial (by simp only [acL] at hl ⊢; omega)
        simp only [Rs.ok.injEq] at h4
        obtain ⟨rfl, rfl⟩ := h4
        exact ⟨Kb.two hB k1 k2 _ _ _ _ _, by omega, fun _ _ _ e => by cases e⟩
      · simp only [Rs.ok.injEq] at h2
        obtain ⟨rfl, rfl⟩ := h2
        exact ⟨k1, z1, fun _ _ _ e => by cases e⟩
    | desig =>
      rw [run] at h
      obtain ⟨x, s, h1, h2⟩ := bind_inv h
      have e1 := name_len h1
      subst e1
      obtain ⟨k1, z1, _⟩ := ih _ _ _ _ _ h2 (Kb.zero _ _ _ _ _) (by simp only [acL] at hl ⊢; omega)
      exact ⟨k1, by omega, fun _ _ _ e => by cases e⟩
    | desigL l =>
      rw [run] at h
      split at h
      · obtain ⟨x, s, h1, h2⟩ := bind_inv h
        have e1 := name_len h1
        subst e1
        have tt := List.length_tail (l := t.tail)
        obtain ⟨k1, z1, _⟩ := ih _ _ _ _ _ h2 (Kb.one hB hn _ _ _ _ _) (by simp only [acL] at hl ⊢; omega)
        exact ⟨k1, by omega, fun _ _ _ e => by cases e⟩
      split at h
      · obtain ⟨x, s, h1, h2⟩ := bind_inv h
        obtain ⟨y, u, h3, h4⟩ := bind_inv h2
        obtain ⟨z, v, h5, h6⟩ := bind_inv h4
        have e1 := begin_len h1
        have e2 := must_len h5
        subst e1
        subst e2
        have ut := List.length_tail (l := u)
        obtain ⟨k1, z1, _⟩ := ih _ _ _ _ _ h3 ⟨by decide, by simp, trivial, .inl rfl⟩ (by simp only [acL, List.length_nil] at hl ⊢; omega)
        obtain ⟨k2, z2, _⟩ := ih _ _ _ _ _ h6 (Kb.idx hB _ _ _ hn k1.all) (by simp only [acL] at hl ⊢; omega)
        exact ⟨k2, by omega, fun _ _ _ e => by cases e⟩
      split at h
      · obtain ⟨k1, z1, _⟩ := ih _ _ _ _ _ h (Kb.one hB hn _ _ _ _ _) (by simp only [acL] at hl ⊢; omega)
        exact ⟨k1, by omega, fun _ _ _ e => by cases e⟩
      split at h
      · rename_i hw
        have t1 := wd_len (t := t) (by rw [hw]; decide)
        obtain ⟨x, s, h1, h2⟩ := bind_inv h
        obtain ⟨y, u, h3, h4⟩ := bind_inv h2
        obtain ⟨z, v, h5, h6⟩ := bind_inv h4
        have e1 := begin_len h1
        have e2 := must_len h5
        subst e1
        subst e2
        have ut := List.length_tail (l := u)
        split at h3
        · simp only [Rs.ok.injEq] at h3
          obtain ⟨rfl, rfl⟩ := h3
          obtain ⟨k2, z2, _⟩ := ih _ _ _ _ _ h6 (Kb.one hB hn _ _ _ _ _) (by simp only [acL] at hl ⊢; omega)
          exact ⟨k2, by omega, fun _ _ _ e => by cases e⟩
        · obtain ⟨k1, z1, q1⟩ := ih _ _ _ _ _ h3 ⟨by decide, by simp, trivial, .inl rfl⟩ (by simp only [acL, List.length_nil] at hl ⊢; omega)
          have q2 := q1 _ _ _ rfl
          simp only [List.length_nil] at q2
          obtain ⟨k2, z2, _⟩ := ih _ _ _ _ _ h6 (.mk _ _ _ _ _ _ (by simp only [acL, List.length_cons] at hl ⊢; omega) (by
            intro a ha
            rcases List.mem_cons.1 ha with rfl | ha
            · exact hn
            · exact k1.all a ha)) (by simp only [acL] at hl ⊢; omega)
          exact ⟨k2, by omega, fun _ _ _ e => by cases e⟩
      · simp only [Rs.ok.injEq] at h
        obtain ⟨rfl, rfl⟩ := h
        exact ⟨hn, Nat.le_refl _, fun _ _ _ e => by cases e⟩
    | row s p acc =>
      rw [run] at h
      obtain ⟨x, u, h1, h2⟩ := bind_inv h
      obtain ⟨hs, ha, hp, hpe⟩ := hn
      have hap : acL p = 0 := by rcases hpe with rfl | rfl <;> rfl
      obtain ⟨k1, z1, _⟩ := ih _ _ _ _ _ h1 hp (by simp only [acL] at hl; omega)
      have ut := List.length_tail (l := u)
      have ha' : ∀ y ∈ acc ++ [x], Kb B y := fun y hy => by
        rcases List.mem_append.1 hy with hy | hy
        · exact ha y hy
        · simp at hy; rw [hy]; exact k1
      split at h2
      · rename_i hw
        have u1 := wd_len (t := u) (by rw [hw]; exact hs)
        obtain ⟨k2, z2, q2⟩ := ih _ _ _ _ _ h2 ⟨hs, ha', hp, hpe⟩ (by simp only [acL, List.length_append, List.length_cons, List.length_nil] at hl ⊢; omega)
        have q3 := q2 _ _ _ rfl
        simp only [List.length_append, List.length_cons, List.length_nil] at q3
        exact ⟨k2, by omega, fun _ _ _ e => by cases e; omega⟩
      · simp only [Rs.ok.injEq] at h2
        obtain ⟨rfl, rfl⟩ := h2
        refine ⟨.mk _ _ _ _ _ _ (by simp only [acL, List.length_append, List.length_cons, List.length_nil] at hl ⊢; omega) ha', z1, fun _ _ _ e => ?_⟩
        cases e
        simp only [lst, Nd.kids, List.length_append, List.length_cons, List.length_nil]; omega
end Go.Proofs.YtendpkflckfgoaaDoor

namespace Go.Proofs.YtendpkflckfgoaaDoor
set_option linter.unusedVariables false
set_option linter.unusedSimpArgs false
open Go.ChangeShapes Go.WideShapes Go.ChangeAt Go.RowKit
attribute [local go_sem ↓] loadTk_seal storeTk_seal loadKeys_seal loadSigns_seal
attribute [local go_sem] loadTk_run storeTk_run rowAt_at rowAt_old rowAt_drew rowAt_drewN roomTk_new roomAt_old roomAt_drew roomAt_drewN putTk_new Tk.fold putRow_past rowTk_put size_put putRow_drew putRow_drewN alloc_drewN setCell_drewN Tk.at0 Tk.at1 Tk.at2 Tk.at3 Tk.size Tk.set0 Tk.set1 Tk.set2 Tk.set3 Tk.ne rowAt_set rowAt_far roomAt_far
attribute [local go_sem ↓] loadNd_seal storeNd_seal
attribute [local go_sem] loadNd_run storeNd_run roomNd_new putNd_new Nc.fold rowNd_put Nc.at0 Nc.at1 Nc.at2 Nc.at3 Nc.at4 Nc.at5 Nc.size Nc.set0 Nc.set1 Nc.set2 Nc.set3 Nc.set4 Nc.set5 Nc.ne

theorem kids_at {w : World} {P : Nat → Prop} : ∀ {l : List Nd} {a : Option Addr} {j : Nat}, KidsAt w P a j l → ∀ i (h : i < l.length), ∃ b c, a = some ⟨b, 0, none⟩ ∧ b < w.heap.size ∧ (∀ q, q < 6 → w.cell? ⟨b, (j + i) * 6 + q, none⟩ = (Nc.cells c)[q]?) ∧ NdAt w P c l[i] := by
  intro l
  induction l with
  | nil => intro a j h i hi; simp at hi
  | cons x r ih =>
    intro a j h i hi
    cases h with
    | cons b j c x r hP hb hc hx hr =>
      cases i with
      | zero => exact ⟨b, c, rfl, hb, by simpa using hc, hx⟩
      | succ i =>
        obtain ⟨b', c', e, h1, h2, h3⟩ := ih hr i (by simpa using hi)
        injection e with e
        injection e with e
        subst e
        exact ⟨b, c', rfl, h1, by rw [show j + (i + 1) = j + 1 + i by omega]; exact h2, h3⟩
def LdN (w : World) (b i : Nat) (c : Nc) : Prop := ∀ X, Below w.heap.size w X → (loadNd ⟨b, i * 6, none⟩).run Tryd.prog X = .ok (.agg c.cells) X
theorem NdsL.at {Pl : Nat → Nat → Prop} : ∀ {l l' : List Nd}, NdsL Pl l l' → l'.length = l.length ∧ ∀ i (h : i < l.length) (h' : i < l'.length), NdL Pl l[i] l'[i]
  | _, _, .nil => ⟨rfl, fun i h => absurd h (by simp)⟩
  | _, _, .cons a r => ⟨by simp [(NdsL.at r).1], fun i h h' => by
    cases i with
    | zero => exact a
    | succ i => exact (NdsL.at r).2 i (by simpa using h) (by simpa using h')⟩
set_option maxHeartbeats 8000000 in
set_option maxRecDepth 20000 in
theorem same_al {B : Nat} (hB : B ≤ 1000000) {n : Nd} (h : Kb B n) : ∀ (n' : Nd), NdL TT n n' → ∀ (w : World) (P Q : Nat → Prop) (c d : Nc), NdAt w P c n → NdAt w Q d n' → Calls Tryd.prog 10 #[.agg c.cells, .agg d.cells, .bool false] w fun e w' => e = .returned (.bool true) ∧ Below w.heap.size w w' := by
  induction h with
  | mk k t n f kids p hl hk ih =>
    intro n' ha w P Q c d hc hd
    cases ha with
    | @mk _ _ _ _ _ kids2 _ p2 hp hks =>
    obtain ⟨hkl, hka2⟩ := hks.at
    cases hc with
    | mk k t n f kids p a m hka =>
      cases hd with
      | mk k t n f kids2 p2 a' m' hkb =>
        have KA : Hid (∀ i (h : i < kids.length), ∃ b c, a = some ⟨b, 0, none⟩ ∧ b < w.heap.size ∧ (∀ q, q < 6 → w.cell? ⟨b, (0 + i) * 6 + q, none⟩ = (Nc.cells c)[q]?) ∧ NdAt w P c kids[i]) := fun i h => kids_at hka i h
        have KB : Hid (∀ i (h : i < kids.length), ∃ b c, a' = some ⟨b, 0, none⟩ ∧ b < w.heap.size ∧ (∀ q, q < 6 → w.cell? ⟨b, (0 + i) * 6 + q, none⟩ = (Nc.cells c)[q]?) ∧ NdAt w Q c (kids2[i]'(by omega))) := fun i h => kids_at hkb i (by omega)
        have IH : Hid (∀ i (h : i < kids.length), ∀ (w : World) (P Q : Nat → Prop) (c d : Nc), NdAt w P c kids[i] → NdAt w Q d (kids2[i]'(by omega)) → Calls Tryd.prog 10 #[.agg c.cells, .agg d.cells, .bool false] w fun e w' => e = .returned (.bool true) ∧ Below w.heap.size w w') := fun i h => ih _ (List.getElem_mem h) _ (hka2 i h (by omega))
        clear hka hkb ih hk hka2 hks
        have e1 : (k != k) = false := by simp
        have e2 : ((bs t).toList == (bs t).toList) = true := by simp
        have e3 : (n != n) = false := by simp
        have e4 : (f != f) = false := by simp
        have e6 : ((kids.length : Int) != (kids.length : Int)) = false := by simp
        rw [hkl]
        obtain ⟨len, hlen⟩ : ∃ len, len = kids.length := ⟨_, rfl⟩
        have HL : Hid (len = kids.length) := hlen
        rw [← hlen] at hl e6 ⊢
        clear hlen
        go_enter Tryd.func10, Tryd.ntmps10
        go_wp2
        obtain ⟨W2, hW2⟩ : ∃ W2, W2 = ((w.alloc (.cells (⟨k, bs t, n, f, a, len, m, (p : Int)⟩ : Nc).cells 25)).alloc (.cells (⟨k, bs t, n, f, a', len, m', (p2 : Int)⟩ : Nc).cells 25)) := ⟨_, rfl⟩
        have b2 : Below w.heap.size w W2 := by rw [hW2]; go_grown
        have s2 : W2.heap.size = w.heap.size + 1 + 1 := by rw [hW2]; simp
        have ra : rowAt W2 w.heap.size = some (⟨k, bs t, n, f, a, len, m, (p : Int)⟩ : Nc).cells := by rw [hW2]; exact (rowAt_old _ _ _ (by simp)).trans (rowAt_at _ _ _ _ _ rfl)
        have rb : rowAt W2 (w.heap.size + 1) = some (⟨k, bs t, n, f, a', len, m', (p2 : Int)⟩ : Nc).cells := by rw [hW2]; exact rowAt_at _ _ _ _ _ (by simp)
        rw [← hW2]
        clear hW2
        go_loopg [7, 8] len (fun gf s7 s8 X => ∃ i : Nat, s7 = .int .i64 (i : Int) ∧ i + gf = len ∧ Below W2.heap.size W2 X)
        case atStart => exact ⟨0, rfl, by omega, Below.refl _ _⟩
        case round =>
          obtain ⟨i, rfl, hi, hbx⟩ := hrel
          have ca := rowAt_cell ((rowAt_below hbx w.heap.size (by omega)).trans ra)
          have cb := rowAt_cell ((rowAt_below hbx (w.heap.size + 1) (by omega)).trans rb)
          have hsx := hbx.size
          have lx : w.heap.size < wr.heap.size := by omega
          have lx1 : w.heap.size + 1 < wr.heap.size := by omega
          by_cases hlt : i < len
          · obtain ⟨g', rfl⟩ : ∃ g', gk = g' + 1 := ⟨gk - 1, by omega⟩
            have d0 : decide ((i : Int) < (len : Int)) = true := by simp; omega
            have hb1 : (0 : Int) ≤ (i : Int) := by omega
            have hb2 : (i : Int) < (len : Int) := by omega
            have hik : i < kids.length := by have := HL.out; omega
            obtain ⟨ba, c1, rfl, hla, hca, hna⟩ := KA.out i hik
            obtain ⟨bb, c2, rfl, hlb, hcb, hnb⟩ := KB.out i hik
            have bw : Below w.heap.size w wr := b2.trans (hbx.mono (by omega))
            have bwd : Below w.heap.size w wr.drew := bw.drew
            have LA : LdN wr ba i c1 := fun X hX => loadNd_mid _ (fun q hq => (((bw.trans (hX.mono (by omega))).cell (p := ⟨ba, i * 6 + q, none⟩) hla).trans (by have := hca q hq; rwa [Nat.zero_add] at this)))
            have LB : LdN wr bb i c2 := fun X hX => loadNd_mid _ (fun q hq => (((bw.trans (hX.mono (by omega))).cell (p := ⟨bb, i * 6 + q, none⟩) hlb).trans (by have := hcb q hq; rwa [Nat.zero_add] at this)))
            have CC : Hid (Calls Tryd.prog 10 #[.agg c1.cells, .agg c2.cells, .bool false] wr.drew fun e w' => e = .returned (.bool true) ∧ Below wr.drew.heap.size wr.drew w') := IH.out i hik wr.drew P Q c1 c2 (hna.keep (fun _ hx _ => hx) bwd.size (fun x _ hl => bwd.block x hl)) (hnb.keep (fun _ hx _ => hx) bwd.size (fun x _ hl => bwd.block x hl))
            clear hca hcb hna hnb IH KA KB ra rb
            go_upto_region 6 with fail
            refine wp_region_held_drew (S := (fun X => Below wr.heap.size wr X)) (by kernel_rfl) (Below.refl _ _).drew (fun hHeld => ?_)
            refine wpAnyH_take (i := 0) (v := ?_) rfl (by kernel_rfl) (by kernel_rfl) (by kernel_rfl) (fun _ _ _ h => h) (Or.inl ⟨by rfl, ?y0f⟩) hHeld ?r0f
            case y0f => (intro w2 hSw; go_simp; try rfl)
            simp only [Act.put, List.setIfInBounds_toArray, List.set_cons_zero, List.set_cons_succ]
            refine wpAnyH_take (i := 1) (v := ?_) rfl (by kernel_rfl) (by kernel_rfl) (by kernel_rfl) (fun _ _ _ h => h) (Or.inl ⟨by rfl, ?y1f⟩) hHeld ?r1f
            case y1f => (intro w2 hSw; have qa : ∀ j, w2.cell? ⟨w.heap.size, j, none⟩ = _ := fun j => (hSw.cell (p := ⟨w.heap.size, j, none⟩) lx).trans (ca j); go_simp; try rfl)
            simp only [Act.put, List.setIfInBounds_toArray, List.set_cons_zero, List.set_cons_succ]
            refine wpAnyH_take (i := 2) (v := ?_) rfl (by kernel_rfl) (by kernel_rfl) (by kernel_rfl) (fun _ _ _ h => h) (Or.inl ⟨by rfl, ?y2f⟩) hHeld ?r2f
            case y2f => (intro w2 hSw; go_simp; try rfl)
            simp only [Act.put, List.setIfInBounds_toArray, List.set_cons_zero, List.set_cons_succ]
            refine wpAnyH_take (i := 3) (v := ?_) rfl (by kernel_rfl) (by kernel_rfl) (by kernel_rfl) (fun _ _ _ h => h) (Or.inl ⟨by rfl, ?y3f⟩) hHeld ?r3f
            case y3f => (intro w2 hSw; go_simp; try rfl)
            simp only [Act.put, List.setIfInBounds_toArray, List.set_cons_zero, List.set_cons_succ]
            refine wpAnyH_take (i := 4) (v := ?_) rfl (by kernel_rfl) (by kernel_rfl) (by kernel_rfl) (fun _ _ _ h => h) (Or.inl ⟨by rfl, ?y4f⟩) hHeld ?r4f
            case y4f => (intro w2 hSw; have q := LA w2 hSw; go_simp; try rfl)
            simp only [Act.put, List.setIfInBounds_toArray, List.set_cons_zero, List.set_cons_succ]
            refine wpAnyH_take (i := 5) (v := ?_) rfl (by kernel_rfl) (by kernel_rfl) (by kernel_rfl) (fun _ _ _ h => h) (Or.inl ⟨by rfl, ?y5f⟩) hHeld ?r5f
            case y5f => (intro w2 hSw; go_simp; try rfl)
            simp only [Act.put, List.setIfInBounds_toArray, List.set_cons_zero, List.set_cons_succ]
            refine wpAnyH_take (i := 6) (v := ?_) rfl (by kernel_rfl) (by kernel_rfl) (by kernel_rfl) (fun _ _ _ h => h) (Or.inl ⟨by rfl, ?y6f⟩) hHeld ?r6f
            case y6f => (intro w2 hSw; have qb : ∀ j, w2.cell? ⟨w.heap.size + 1, j, none⟩ = _ := fun j => (hSw.cell (p := ⟨w.heap.size + 1, j, none⟩) lx1).trans (cb j); go_simp; try rfl)
            simp only [Act.put, List.setIfInBounds_toArray, List.set_cons_zero, List.set_cons_succ]
            refine wpAnyH_take (i := 7) (v := ?_) rfl (by kernel_rfl) (by kernel_rfl) (by kernel_rfl) (fun _ _ _ h => h) (Or.inl ⟨by rfl, ?y7f⟩) hHeld ?r7f
            case y7f => (intro w2 hSw; go_simp; try rfl)
            simp only [Act.put, List.setIfInBounds_toArray, List.set_cons_zero, List.set_cons_succ]
            refine wpAnyH_take (i := 8) (v := ?_) rfl (by kernel_rfl) (by kernel_rfl) (by kernel_rfl) (fun _ _ _ h => h) (Or.inl ⟨by rfl, ?y8f⟩) hHeld ?r8f
            case y8f => (intro w2 hSw; go_simp; try rfl)
            simp only [Act.put, List.setIfInBounds_toArray, List.set_cons_zero, List.set_cons_succ]
            refine wpAnyH_take (i := 9) (v := ?_) rfl (by kernel_rfl) (by kernel_rfl) (by kernel_rfl) (fun _ _ _ h => h) (Or.inl ⟨by rfl, ?y9f⟩) hHeld ?r9f
            case y9f => (intro w2 hSw; have q := LB w2 hSw; go_simp; try rfl)
            simp only [Act.put, List.setIfInBounds_toArray, List.set_cons_zero, List.set_cons_succ]
            refine wpAnyH_take (i := 10) (v := ?_) rfl (by kernel_rfl) (by kernel_rfl) (by kernel_rfl) (fun _ _ _ h => h) (Or.inl ⟨by rfl, ?y10f⟩) hHeld ?r10f
            case y10f => (intro w2 hSw; go_simp; try rfl)
            simp only [Act.put, List.setIfInBounds_toArray, List.set_cons_zero, List.set_cons_succ]
            refine wpAnyH_ready (rs := [11]) (by kernel_rfl) (by simp) ?_
            refine AllReadyH.cons rfl (fun K hK => ?_) AllReadyH.nil
            go_simp
            go_wp2_with (go_at_call 10; refine CC.out.mono ?_; rintro e w5 ⟨rfl, hb5⟩)
            have b5 : Below wr.heap.size wr w5 := ((Below.refl _ _).drew).trans hb5
            refine hK.out _ _ b5 (fun _ => ?_)
            clear hK K
            refine wpAnyH_ready (rs := [12]) (by kernel_rfl) (by simp) ?_
            refine AllReadyH.cons rfl (fun K hK => ?_) AllReadyH.nil
            go_simp
            refine hK.out _ _ b5 (fun _ => ?_)
            clear hK K
            refine wpAnyH_done (by kernel_rfl) ?_ _
            have b6 : Below W2.heap.size W2 w5 := hbx.trans (b5.mono hsx)
            go_wp2_with fail
            go_roundg g'
            case measure => omega
            case rel => exact ⟨i + 1, by simp, by omega, b6⟩
          · have d0 : decide ((i : Int) < (len : Int)) = false := by simp; omega
            clear IH KA KB ra rb
            go_wp2
            go_ret
            exact ⟨rfl, b2.trans (hbx.mono (by omega))⟩
end Go.Proofs.YtendpkflckfgoaaDoor

namespace Go.Proofs.YtendpkflckfgoaaDoor
set_option linter.unusedVariables false
set_option linter.unusedSimpArgs false
open Go.ChangeShapes Go.WideShapes Go.ChangeAt Go.RowKit
attribute [local go_sem ↓] loadTk_seal storeTk_seal loadKeys_seal loadSigns_seal
attribute [local go_sem] loadTk_run storeTk_run rowAt_at rowAt_old rowAt_drew rowAt_drewN roomTk_new roomAt_old roomAt_drew roomAt_drewN putTk_new Tk.fold putRow_past rowTk_put size_put putRow_drew putRow_drewN alloc_drewN setCell_drewN Tk.at0 Tk.at1 Tk.at2 Tk.at3 Tk.size Tk.set0 Tk.set1 Tk.set2 Tk.set3 Tk.ne rowAt_set rowAt_far roomAt_far
attribute [local go_sem ↓] loadNd_seal storeNd_seal
attribute [local go_sem] loadNd_run storeNd_run roomNd_new putNd_new Nc.fold rowNd_put Nc.at0 Nc.at1 Nc.at2 Nc.at3 Nc.at4 Nc.at5 Nc.size Nc.set0 Nc.set1 Nc.set2 Nc.set3 Nc.set4 Nc.set5 Nc.ne

def shT : Bs := [49, 32, 43, 32, 120]
def shM : Nd := .mk 37 [43] 0 false [.mk 24 [] 1 false [] 0, .mk 31 [120] 0 false [] 4] 2
theorem shT_ans : ansP .expr shT = (shM, 0, 0) := by kernel_rfl
set_option maxHeartbeats 4000000 in
set_option maxRecDepth 20000 in
theorem shownT (w : World) (V : Vars w) : Calls Tryd.prog 7 #[] w fun e w' => e = .returned (.bool true) ∧ Below w.heap.size w w' := by
  have EX : Hid (Calls Tryd.prog 8 #[.string (bs shT)] w (PostA w (shM, 0, 0))) := by
    have := expr_any shT w V
    rwa [shT_ans] at this
  clear V
  have xb : ((bs [43]).toList == [43]) = true := by kernel_rfl
  have xc : (bs [43]).toList = [43] := by kernel_rfl
  go_enter Tryd.func7, Tryd.ntmps7
  go_wp2_with (go_at_call 8; refine EX.out.mono ?_; rintro e w1 ⟨c, rfl, nd, hb⟩; have hs := hb.size; have hc : ∃ a m, c = ⟨37, bs [43], 0, false, a, 2, m, 2⟩ := (by cases nd; exact ⟨_, _, rfl⟩); obtain ⟨a, m, rfl⟩ := hc)
  go_ret
  exact ⟨rfl, by go_grown⟩
end Go.Proofs.YtendpkflckfgoaaDoor

namespace Go.Proofs.YtendpkflckfgoaaDoor
set_option linter.unusedVariables false
set_option linter.unusedSimpArgs false
open Go.ChangeShapes Go.WideShapes Go.ChangeAt Go.RowKit
attribute [local go_sem ↓] loadTk_seal storeTk_seal loadKeys_seal loadSigns_seal
attribute [local go_sem] loadTk_run storeTk_run rowAt_at rowAt_old rowAt_drew rowAt_drewN roomTk_new roomAt_old roomAt_drew roomAt_drewN putTk_new Tk.fold putRow_past rowTk_put size_put putRow_drew putRow_drewN alloc_drewN setCell_drewN Tk.at0 Tk.at1 Tk.at2 Tk.at3 Tk.size Tk.set0 Tk.set1 Tk.set2 Tk.set3 Tk.ne rowAt_set rowAt_far roomAt_far
attribute [local go_sem ↓] loadNd_seal storeNd_seal
attribute [local go_sem] loadNd_run storeNd_run roomNd_new putNd_new Nc.fold rowNd_put Nc.at0 Nc.at1 Nc.at2 Nc.at3 Nc.at4 Nc.at5 Nc.size Nc.set0 Nc.set1 Nc.set2 Nc.set3 Nc.set4 Nc.set5 Nc.ne

theorem cat_in (l : Bs) : (⟨#[77, 79, 68, 85, 76, 69, 32, 65, 59, 32, 66, 69, 71, 73, 78, 32, 120, 32, 58, 61, 32]⟩ ++ bs l) ++ ⟨#[32, 69, 78, 68, 32, 65, 46]⟩ = bs (inL l) := by
  rw [show (⟨#[77, 79, 68, 85, 76, 69, 32, 65, 59, 32, 66, 69, 71, 73, 78, 32, 120, 32, 58, 61, 32]⟩ : ByteArray) = bs (preL ++ [32]) from rfl, show (⟨#[32, 69, 78, 68, 32, 65, 46]⟩ : ByteArray) = bs (32 :: sufL) from rfl, bs_app, bs_app]
  unfold inL
  simp
theorem ansP_zero (l : Bs) (h : (ansP .expr l).2.2 ≠ 0) : (ansP .expr l).1 = zeroN := by
  unfold ansP at h ⊢
  split
  · rfl
  · rename_i h1
    rw [if_neg h1] at h
    split
    · rfl
    · rename_i h2
      rw [h2] at h
      simp only at h ⊢
      split
      · rename_i h3; rw [if_pos h3] at h; exact absurd rfl h
      · rfl
theorem ansM_zero (l : Bs) (h : (ansM l).2.2 ≠ 0) : (ansM l).1 = zeroN := by
  unfold ansM at h ⊢
  split
  · rfl
  · rename_i h1
    rw [if_neg h1] at h
    split
    · rfl
    · rename_i h2
      rw [h2] at h
      simp only at h ⊢
      split
      · rename_i h3; rw [if_pos h3] at h; exact absurd rfl h
      · rfl
theorem ansM_long (l : Bs) (h : (ansM l).2.2 = 0) : l.length ≤ 16384 := by
  by_cases hl : l.length ≤ 16384
  · exact hl
  · unfold ansM at h
    have : (allP l).e = 80 := by unfold allP; rw [if_pos (by omega)]
    rw [if_pos (by rw [this]; decide)] at h
    rw [this] at h
    simp at h
theorem ansP_small (l : Bs) : Kb 20000 (ansP .expr l).1 := by
  unfold ansP
  split
  · exact Kb.zero _ _ _ _ _
  · rename_i he
    have he : (allP l).e = 0 := by omega
    obtain ⟨_, _, _, _, hl, _⟩ := allP_shape l he
    split
    · exact Kb.zero _ _ _ _ _
    · rename_i n r hr
      split
      · exact (run_small 20000 (by decide) _ _ _ _ _ _ hr trivial (by simp only [acL]; omega)).1
      · exact Kb.zero _ _ _ _ _
set_option maxHeartbeats 8000000 in
set_option maxRecDepth 20000 in
theorem within_fails (l : Bs) (hll : l.length ≤ 4611686018427387904) (w : World) (V : Vars w) (he : (ansM (inL l)).2.2 ≠ 0 ∨ (ansP .expr l).2.2 ≠ 0) : Calls Tryd.prog 3 #[.string (bs l)] w fun e w' => e = .returned (.bool true) ∧ Below w.heap.size w w' := by
  have SH := shownT w V
  have EX : Hid (∀ X, Below w.heap.size w X → Calls Tryd.prog 8 #[.string (bs l)] X (PostA X (ansP .expr l))) := fun X hX => expr_any l X (V.below hX V.big2)
  have MO : Hid (∀ X, Below w.heap.size w X → Calls Tryd.prog 9 #[.string (bs (inL l))] X (PostA X (ansM (inL l)))) := fun X hX => modules_any (inL l) X (V.below hX V.big2)
  have zE := ansP_zero l
  have zM := ansM_zero (inL l)
  have ct := cat_in l
  have hz := bs_size l
  clear V
  generalize bs (inL l) = bt at ct MO
  generalize ansM (inL l) = M at MO zM he
  generalize ansP .expr l = E at EX zE he
  obtain ⟨nm, pm, fm⟩ := M
  obtain ⟨ne, pe, fe⟩ := E
  simp only at zE zM he EX MO
  by_cases hm : fm = 0
  · have he2 : fe ≠ 0 := he.resolve_left (fun h => h hm)
    have hne := zE he2
    subst hne
    have k1 : (fm != 0) = false := by rw [hm]; rfl
    have k2 : (fm == 0) = true := by rw [hm]; rfl
    have k3 : (fe != 0) = true := by simpa using he2
    have k4 : (fe == 0) = false := by simpa using he2
    clear he zE zM hm he2
    go_enter Tryd.func3, Tryd.ntmps3
    go_wp2_with (first
      | (go_at_call 9; refine (MO.out _ B1.out).mono ?_; rintro e' w2 ⟨c2, rfl, nd2, hb2⟩; have hs2 := hb2.size; simp at hs2; have r2 : rowAt w2 w1.heap.size = some _ := (rowAt_below hb2 _ (by simp)).trans (rowAt_at _ _ _ _ _ rfl); have cc2 := rowAt_cell r2; have ln2 : w1.heap.size ≠ w2.heap.size := (by omega); have ll2 : w1.heap.size < w2.heap.size := (by omega))
      | (go_at_call 8; refine (EX.out _ hb0).mono ?_; rintro e' w1 ⟨c1, rfl, nd1, hb1⟩; have hs1 := hb1.size; obtain ⟨a1, m1, rfl⟩ := leaf_cells nd1; have B1 : Hid (Below w.heap.size w (w1.alloc (.cells (⟨0, bs [], 0, false, a1, 0, m1, ((0 : Nat) : Int)⟩ : Nc).cells 25))) := hb0.trans ((hb1.trans ((Below.refl _ _).alloc hs1 _)).mono hs0))
      | (go_at_call 7; refine SH.mono ?_; rintro e' w0 ⟨rfl, hb0⟩; have hs0 := hb0.size))
    go_ret
    exact ⟨rfl, B1.out.trans ((hb2.trans ((Below.refl _ _).alloc (by simp; omega) _)).mono B1.out.size)⟩
  · have hnm := zM hm
    subst hnm
    have k1 : (fm != 0) = true := by simpa using hm
    have k2 : (fm == 0) = false := by simpa using hm
    by_cases he2 : fe = 0
    · have k4 : (fe == 0) = true := by rw [he2]; rfl
      clear he zE zM hm he2
      go_enter Tryd.func3, Tryd.ntmps3
      go_wp2_with (first
        | (go_at_call 9; refine (MO.out _ B1.out).mono ?_; rintro e' w2 ⟨c2, rfl, nd2, hb2⟩; have hs2 := hb2.size; simp at hs2; obtain ⟨a2, m2, rfl⟩ := leaf_cells nd2; have r2 : rowAt w2 w1.heap.size = some _ := (rowAt_below hb2 _ (by simp)).trans (rowAt_at _ _ _ _ _ rfl); have cc2 := rowAt_cell r2; have ln2 : w1.heap.size ≠ w2.heap.size := (by omega); have ll2 : w1.heap.size < w2.heap.size := (by omega))
        | (go_at_call 8; refine (EX.out _ hb0).mono ?_; rintro e' w1 ⟨c1, rfl, nd1, hb1⟩; have hs1 := hb1.size; have B1 : Hid (Below w.heap.size w (w1.alloc (.cells c1.cells 25))) := hb0.trans ((hb1.trans ((Below.refl _ _).alloc hs1 _)).mono hs0))
        | (go_at_call 7; refine SH.mono ?_; rintro e' w0 ⟨rfl, hb0⟩; have hs0 := hb0.size))
      go_ret
      exact ⟨rfl, B1.out.trans ((hb2.trans ((Below.refl _ _).alloc (by simp; omega) _)).mono B1.out.size)⟩
    · have hne := zE he2
      subst hne
      have k4 : (fe == 0) = false := by simpa using he2
      clear he zE zM hm he2
      go_enter Tryd.func3, Tryd.ntmps3
      go_wp2_with (first
        | (go_at_call 9; refine (MO.out _ B1.out).mono ?_; rintro e' w2 ⟨c2, rfl, nd2, hb2⟩; have hs2 := hb2.size; simp at hs2; obtain ⟨a2, m2, rfl⟩ := leaf_cells nd2; have r2 : rowAt w2 w1.heap.size = some _ := (rowAt_below hb2 _ (by simp)).trans (rowAt_at _ _ _ _ _ rfl); have cc2 := rowAt_cell r2; have ln2 : w1.heap.size ≠ w2.heap.size := (by omega); have ll2 : w1.heap.size < w2.heap.size := (by omega))
        | (go_at_call 8; refine (EX.out _ hb0).mono ?_; rintro e' w1 ⟨c1, rfl, nd1, hb1⟩; have hs1 := hb1.size; obtain ⟨a1, m1, rfl⟩ := leaf_cells nd1; have B1 : Hid (Below w.heap.size w (w1.alloc (.cells (⟨0, bs [], 0, false, a1, 0, m1, ((0 : Nat) : Int)⟩ : Nc).cells 25))) := hb0.trans ((hb1.trans ((Below.refl _ _).alloc hs1 _)).mono hs0))
        | (go_at_call 7; refine SH.mono ?_; rintro e' w0 ⟨rfl, hb0⟩; have hs0 := hb0.size))
      go_ret
      exact ⟨rfl, B1.out.trans ((hb2.trans ((Below.refl _ _).alloc (by simp; omega) _)).mono B1.out.size)⟩
theorem nd_inv {w : World} {P : Nat → Prop} {c : Nc} {k n : Int} {t : Bs} {f : Bool} {l : List Nd} {p : Nat} (h : NdAt w P c (.mk k t n f l p)) : ∃ a m, c = ⟨k, bs t, n, f, a, l.length, m, (p : Int)⟩ ∧ KidsAt w P a 0 l := by
  cases h with
  | mk _ _ _ _ _ _ a m hk => exact ⟨a, m, rfl, hk⟩
/-- A field of a kid, a kid, in every world behind. -/
theorem kid_load {w : World} {P : Nat → Prop} {l : List Nd} {a : Option Addr} (h : KidsAt w P a 0 l) (i : Nat) (hi : i < l.length) : ∃ b c, a = some ⟨b, 0, none⟩ ∧ b < w.heap.size ∧ NdAt w P c l[i] ∧ (∀ X, Below w.heap.size w X → X.cell? ⟨b, i * 6 + 4, none⟩ = some (.slice c.a c.l c.m)) ∧ LdN w b i c := by
  obtain ⟨b, c, e, hb, hc, hn⟩ := kids_at h i hi
  refine ⟨b, c, e, hb, hn, fun X hX => ?_, fun X hX => loadNd_mid _ (fun q hq => ((hX.cell (p := ⟨b, i * 6 + q, none⟩) hb).trans (by have := hc q hq; rwa [Nat.zero_add] at this)))⟩
  rw [hX.cell (p := ⟨b, i * 6 + 4, none⟩) hb]
  have := hc 4 (by omega)
  rwa [Nat.zero_add] at this
set_option maxHeartbeats 8000000 in
set_option maxRecDepth 20000 in
theorem within_goes (l : Bs) (hll : l.length ≤ 4611686018427387904) (w : World) (V : Vars w) (h1 : (ansM (inL l)).2.2 = 0) (h2 : (ansP .expr l).2.2 = 0) : Calls Tryd.prog 3 #[.string (bs l)] w fun e w' => e = .returned (.bool true) ∧ Below w.heap.size w w' := by
  have SH := shownT w V
  have EX : Hid (∀ X, Below w.heap.size w X → Calls Tryd.prog 8 #[.string (bs l)] X (PostA X (ansP .expr l))) := fun X hX => expr_any l X (V.below hX V.big2)
  have MO : Hid (∀ X, Below w.heap.size w X → Calls Tryd.prog 9 #[.string (bs (inL l))] X (PostA X (ansM (inL l)))) := fun X hX => modules_any (inL l) X (V.below hX V.big2)
  obtain ⟨n', hM, hN⟩ := within_plain l h2 (ansM_long _ h1)
  have KS := ansP_small l
  rw [hM] at MO
  have ct := cat_in l
  have hz := bs_size l
  clear V hM h1
  generalize bs (inL l) = bt at ct MO
  generalize ansP .expr l = E at EX h2 hN KS
  obtain ⟨ne, pe, fe⟩ := E
  simp only at h2 hN KS EX MO
  subst h2
  have SM : Hid (∀ X P Q c d, NdAt X P c ne → NdAt X Q d n' → Calls Tryd.prog 10 #[.agg c.cells, .agg d.cells, .bool false] X _) := fun X P Q c d h1 h2 => same_al (by decide) KS n' hN X P Q c d h1 h2
  clear hN KS
  go_enter Tryd.func3, Tryd.ntmps3
  go_upto_region 8 with (first
    | (go_at_call 9; refine (MO.out _ B1.out).mono ?_; rintro e' w2 ⟨c2, rfl, nd2, hb2⟩; have hs2 := hb2.size; simp at hs2; obtain ⟨a2, m2, rfl, hk2⟩ := nd_inv nd2; obtain ⟨b7, c7, rfl, lb7, nd7, C7, L7⟩ := kid_load hk2 0 (by simp); obtain ⟨a8, m8, rfl, hk8⟩ := nd_inv nd7; obtain ⟨b8, c8, rfl, lb8, nd8, C8, L8⟩ := kid_load hk8 0 (by simp); obtain ⟨a9, m9, rfl, hk9⟩ := nd_inv nd8; obtain ⟨b9, c9, rfl, lb9, nd9, C9, L9⟩ := kid_load hk9 1 (by simp); have bal : Below w2.heap.size w2 (w2.alloc (.cells (⟨1, bs [65], 0, false, some ⟨b7, 0, none⟩, 1, m2, ((0 : Nat) : Int)⟩ : Nc).cells 25)) := (Below.refl _ _).alloc (Nat.le_refl _) _; have q7 := C7 w2 (Below.refl _ _); have q8 := C8 w2 (Below.refl _ _); have nb7 : b7 ≠ w2.heap.size := (by omega); have nb8 : b8 ≠ w2.heap.size := (by omega); have nb9 : b9 ≠ w2.heap.size := (by omega); simp only [Nat.zero_mul, Nat.zero_add, Nat.one_mul] at C7 C8 q7 q8; have ln2 : w1.heap.size ≠ w2.heap.size := (by omega); have ll2 : w1.heap.size < w2.heap.size := (by omega); have HN : Hid (NdAt w2 _ c9 n' ∧ NdAt w1 _ c1 ne) := ⟨nd9, nd1⟩; have r2 : rowAt w2 w1.heap.size = some c1.cells := (rowAt_below hb2 _ (by simp)).trans (rowAt_at _ _ _ _ _ rfl); clear nd9 nd1 L7 L8 hk2 hk8 hk9)
    | (go_at_call 8; refine (EX.out _ hb0).mono ?_; rintro e' w1 ⟨c1, rfl, nd1, hb1⟩; have hs1 := hb1.size; have B1 : Hid (Below w.heap.size w (w1.alloc (.cells c1.cells 25))) := hb0.trans ((hb1.trans ((Below.refl _ _).alloc hs1 _)).mono hs0))
    | (go_at_call 7; refine SH.mono ?_; rintro e' w0 ⟨rfl, hb0⟩; have hs0 := hb0.size))
  have z1 : w1.heap.size < w2.heap.size := ll2
  have R1 : rowAt (w2.alloc (.cells (⟨1, bs [65], 0, false, some ⟨b7, 0, none⟩, 1, m2, ((0 : Nat) : Int)⟩ : Nc).cells 25)) w1.heap.size = some c1.cells := (rowAt_old _ _ _ ln2).trans r2
  have R4 : rowAt (w2.alloc (.cells (⟨1, bs [65], 0, false, some ⟨b7, 0, none⟩, 1, m2, ((0 : Nat) : Int)⟩ : Nc).cells 25)) w2.heap.size = some (⟨1, bs [65], 0, false, some ⟨b7, 0, none⟩, 1, m2, ((0 : Nat) : Int)⟩ : Nc).cells := rowAt_at _ _ _ _ _ rfl
  have zW : (w2.alloc (.cells (⟨1, bs [65], 0, false, some ⟨b7, 0, none⟩, 1, m2, ((0 : Nat) : Int)⟩ : Nc).cells 25)).heap.size = w2.heap.size + 1 := by simp
  have BW : Below w.heap.size w (w2.alloc (.cells (⟨1, bs [65], 0, false, some ⟨b7, 0, none⟩, 1, m2, ((0 : Nat) : Int)⟩ : Nc).cells 25)) := B1.out.trans ((hb2.trans ((Below.refl _ _).alloc (by simp; omega) _)).mono B1.out.size)
  have N1 : NdAt w2 (fun x => w0.heap.size ≤ x) c1 ne := HN.out.2.keep (fun _ hx _ => hx) (by omega) (fun x _ hl => (hb2.block x (by simp; omega)).trans (((Below.refl _ _).alloc (Nat.le_refl _) _).block x hl))
  have N2 := HN.out.1
  generalize w2.alloc (.cells (⟨1, bs [65], 0, false, some ⟨b7, 0, none⟩, 1, m2, ((0 : Nat) : Int)⟩ : Nc).cells 25) = W at *
  have F1 : Hid (∀ X, Below W.heap.size W X → rowAt X w1.heap.size = some c1.cells) := fun X hX => (rowAt_below hX _ (by omega)).trans R1
  have F4 : Hid (∀ X, Below W.heap.size W X → X.cell? ⟨w2.heap.size, 4, none⟩ = some (.slice (some ⟨b7, 0, none⟩) 1 m2)) := fun X hX => rowAt_cell ((rowAt_below hX _ (by omega)).trans R4) 4
  have F7 : Hid (∀ X, Below W.heap.size W X → X.cell? ⟨b7, 4, none⟩ = some (.slice (some ⟨b8, 0, none⟩) 1 m8)) := fun X hX => C7 X (bal.trans (hX.mono (by omega)))
  have F8 : Hid (∀ X, Below W.heap.size W X → X.cell? ⟨b8, 4, none⟩ = some (.slice (some ⟨b9, 0, none⟩) 2 m9)) := fun X hX => C8 X (bal.trans (hX.mono (by omega)))
  have F9 : Hid (∀ X, Below W.heap.size W X → (loadNd ⟨b9, 6, none⟩).run Tryd.prog X = .ok (.agg c9.cells) X) := fun X hX => by have := L9 X (bal.trans (hX.mono (by omega))); simpa using this
  have HB : Hid (Below w.heap.size w W) := BW
  have CC : Hid (Calls Tryd.prog 10 #[.agg c1.cells, .agg c9.cells, .bool false] W.drew fun e w' => e = .returned (.bool true) ∧ Below W.drew.heap.size W.drew w') := SM.out _ _ _ c1 c9 (N1.keep (fun _ hx _ => hx) bal.drew.size (fun x _ hl => bal.drew.block x hl)) (N2.keep (fun _ hx _ => hx) bal.drew.size (fun x _ hl => bal.drew.block x hl))
  clear N1 N2 HN SM C7 C8 C9 L9 bal BW R1 R4 q7 q8 r2 MO EX SH
  refine wp_region_held_drew (S := (fun X => Below W.heap.size W X)) (by kernel_rfl) (Below.refl _ _).drew (fun hHeld => ?_)
  refine wpAnyH_take (i := 0) (v := ?_) rfl (by kernel_rfl) (by kernel_rfl) (by kernel_rfl) (fun _ _ _ h => h) (Or.inl ⟨by kernel_rfl, ?y0w⟩) hHeld ?r0w
  case y0w => (intro wq hSw; go_simp; try rfl)
  simp only [Act.put, List.setIfInBounds_toArray, List.set_cons_zero, List.set_cons_succ]
  refine wpAnyH_take (i := 1) (v := ?_) rfl (by kernel_rfl) (by kernel_rfl) (by kernel_rfl) (fun _ _ _ h => h) (Or.inl ⟨by kernel_rfl, ?y1w⟩) hHeld ?r1w
  case y1w => (intro wq hSw; go_simp; try rfl)
  simp only [Act.put, List.setIfInBounds_toArray, List.set_cons_zero, List.set_cons_succ]
  refine wpAnyH_take (i := 2) (v := ?_) rfl (by kernel_rfl) (by kernel_rfl) (by kernel_rfl) (fun _ _ _ h => h) (Or.inl ⟨by kernel_rfl, ?y2w⟩) hHeld ?r2w
  case y2w => (intro wq hSw; have q1 := F1.out wq hSw; go_simp; try rfl)
  simp only [Act.put, List.setIfInBounds_toArray, List.set_cons_zero, List.set_cons_succ]
  refine wpAnyH_take (i := 3) (v := ?_) rfl (by kernel_rfl) (by kernel_rfl) (by kernel_rfl) (fun _ _ _ h => h) (Or.inl ⟨by kernel_rfl, ?y3w⟩) hHeld ?r3w
  case y3w => (intro wq hSw; go_simp; try rfl)
  simp only [Act.put, List.setIfInBounds_toArray, List.set_cons_zero, List.set_cons_succ]
  refine wpAnyH_take (i := 4) (v := ?_) rfl (by kernel_rfl) (by kernel_rfl) (by kernel_rfl) (fun _ _ _ h => h) (Or.inl ⟨by kernel_rfl, ?y4w⟩) hHeld ?r4w
  case y4w => (intro wq hSw; have q4 := F4.out wq hSw; go_simp; try rfl)
  simp only [Act.put, List.setIfInBounds_toArray, List.set_cons_zero, List.set_cons_succ]
  refine wpAnyH_take (i := 5) (v := ?_) rfl (by kernel_rfl) (by kernel_rfl) (by kernel_rfl) (fun _ _ _ h => h) (Or.inl ⟨by kernel_rfl, ?y5w⟩) hHeld ?r5w
  case y5w => (intro wq hSw; go_simp; try rfl)
  simp only [Act.put, List.setIfInBounds_toArray, List.set_cons_zero, List.set_cons_succ]
  refine wpAnyH_take (i := 6) (v := ?_) rfl (by kernel_rfl) (by kernel_rfl) (by kernel_rfl) (fun _ _ _ h => h) (Or.inl ⟨by kernel_rfl, ?y6w⟩) hHeld ?r6w
  case y6w => (intro wq hSw; go_simp; try rfl)
  simp only [Act.put, List.setIfInBounds_toArray, List.set_cons_zero, List.set_cons_succ]
  refine wpAnyH_take (i := 7) (v := ?_) rfl (by kernel_rfl) (by kernel_rfl) (by kernel_rfl) (fun _ _ _ h => h) (Or.inl ⟨by kernel_rfl, ?y7w⟩) hHeld ?r7w
  case y7w => (intro wq hSw; have q7 := F7.out wq hSw; go_simp; try rfl)
  simp only [Act.put, List.setIfInBounds_toArray, List.set_cons_zero, List.set_cons_succ]
  refine wpAnyH_take (i := 8) (v := ?_) rfl (by kernel_rfl) (by kernel_rfl) (by kernel_rfl) (fun _ _ _ h => h) (Or.inl ⟨by kernel_rfl, ?y8w⟩) hHeld ?r8w
  case y8w => (intro wq hSw; go_simp; try rfl)
  simp only [Act.put, List.setIfInBounds_toArray, List.set_cons_zero, List.set_cons_succ]
  refine wpAnyH_take (i := 9) (v := ?_) rfl (by kernel_rfl) (by kernel_rfl) (by kernel_rfl) (fun _ _ _ h => h) (Or.inl ⟨by kernel_rfl, ?y9w⟩) hHeld ?r9w
  case y9w => (intro wq hSw; go_simp; try rfl)
  simp only [Act.put, List.setIfInBounds_toArray, List.set_cons_zero, List.set_cons_succ]
  refine wpAnyH_take (i := 10) (v := ?_) rfl (by kernel_rfl) (by kernel_rfl) (by kernel_rfl) (fun _ _ _ h => h) (Or.inl ⟨by kernel_rfl, ?y10w⟩) hHeld ?r10w
  case y10w => (intro wq hSw; have q8 := F8.out wq hSw; go_simp; try rfl)
  simp only [Act.put, List.setIfInBounds_toArray, List.set_cons_zero, List.set_cons_succ]
  refine wpAnyH_take (i := 11) (v := ?_) rfl (by kernel_rfl) (by kernel_rfl) (by kernel_rfl) (fun _ _ _ h => h) (Or.inl ⟨by kernel_rfl, ?y11w⟩) hHeld ?r11w
  case y11w => (intro wq hSw; go_simp; try rfl)
  simp only [Act.put, List.setIfInBounds_toArray, List.set_cons_zero, List.set_cons_succ]
  refine wpAnyH_take (i := 12) (v := ?_) rfl (by kernel_rfl) (by kernel_rfl) (by kernel_rfl) (fun _ _ _ h => h) (Or.inl ⟨by kernel_rfl, ?y12w⟩) hHeld ?r12w
  case y12w => (intro wq hSw; have q9 := F9.out wq hSw; go_simp; try rfl)
  simp only [Act.put, List.setIfInBounds_toArray, List.set_cons_zero, List.set_cons_succ]
  refine wpAnyH_ready (rs := [13]) (by kernel_rfl) (by simp) ?_
  refine AllReadyH.cons rfl (fun K hK => ?_) AllReadyH.nil
  go_simp
  go_wp2_with (go_at_call 10; refine CC.out.mono ?_; rintro e w5 ⟨rfl, hb5⟩)
  have b5 : Below W.heap.size W w5 := ((Below.refl _ _).drew).trans hb5
  refine hK.out _ _ b5 (fun _ => ?_)
  clear hK K
  refine wpAnyH_ready (rs := [14]) (by kernel_rfl) (by simp) ?_
  refine AllReadyH.cons rfl (fun K hK => ?_) AllReadyH.nil
  go_simp
  refine hK.out _ _ b5 (fun _ => ?_)
  clear hK K
  refine wpAnyH_ready (rs := [15]) (by kernel_rfl) (by simp) ?_
  refine AllReadyH.cons rfl (fun K hK => ?_) AllReadyH.nil
  go_simp
  refine hK.out _ _ b5 (fun _ => ?_)
  clear hK K
  refine wpAnyH_done (by kernel_rfl) ?_ _
  go_wp2_with fail
  go_ret
  exact ⟨rfl, HB.out.trans (b5.mono HB.out.size)⟩
theorem within_any (s : ByteArray) (hr : s.size ≤ 4611686018427387904) (w : World) (V : Vars w) : Calls Tryd.prog 3 #[.string s] w fun e w' => e = .returned (.bool true) ∧ Below w.heap.size w w' := by
  rw [← bs_of s]
  have hr2 : s.data.toList.length ≤ 4611686018427387904 := by rw [Array.length_toList]; exact hr
  generalize s.data.toList = l at hr2
  by_cases h1 : (ansM (inL l)).2.2 = 0
  · by_cases h2 : (ansP .expr l).2.2 = 0
    · exact within_goes l hr2 w V h1 h2
    · exact within_fails l hr2 w V (.inr h2)
  · exact within_fails l hr2 w V (.inl h1)
end Go.Proofs.YtendpkflckfgoaaDoor

namespace Go.Proofs.YtendpkflckfgoaaDoor
set_option linter.unusedVariables false
set_option linter.unusedSimpArgs false
open Go.ChangeShapes Go.WideShapes Go.ChangeAt Go.RowKit

theorem at_of {l : List Value} {k : Nat} {v : Value} (h : (l.drop k).take 1 = [v]) : l[k]? = some v := by
  have : ((l.drop k).take 1)[0]? = some v := by rw [h]; rfl
  simpa using this
theorem some_of {α : Type} {xs : List α} {n i : Nat} (h : xs.length = n) (hi : i < n) : ∃ y, xs[i]? = some y := ⟨xs[i]'(by omega), List.getElem?_eq_getElem (by omega)⟩
theorem Tryd.cells9 : Tryd.prog.cellsOf 9 = 1 := by kernel_rfl
/-- One listed variable: its block, its cells, what they read as. -/
def OneIs (W : World) (n : String) (d : DataW Unit) : Prop := ∃ g t cs fuel p, Tryd.prog.globalNamed n = some g ∧ (Tryd.prog.globals[g]?).map (·.type) = some t ∧ W.var? Tryd.prog n = some cs ∧ DataW.trod (fun _ => ()) Tryd.prog W 0 (fun _ => true) false fuel t cs.toList = some (d, p)
theorem laid_each {W : World} : ∀ {l : List (String × DataW Unit)} {ps : List MemPlace}, DataW.LaidVars Tryd.prog W l ps → ∀ x ∈ l, OneIs W x.1 x.2
  | [], _, _, x, hx => by cases hx
  | (n, d) :: r, ps, ⟨g, t, cs, fuel, p, q, h1, h2, h3, h4, h5, _⟩, x, hx => by
    rcases List.mem_cons.1 hx with rfl | hx
    · exact ⟨g, t, cs, fuel, p, h1, h2, h3, h4⟩
    · exact laid_each h5 x hx
theorem strs_of {W : World} {n : String} {ls : List Bs} {g t m : Nat} (h : OneIs W n (.agg (ls.map fun s => .lit (.string s)))) (hg : Tryd.prog.globalNamed n = some g) (ht : (Tryd.prog.globals[g]?).map (·.type) = some t) (hu : Tryd.prog.underlying t = some (.array m 9)) (hm : ls.length = m) :
    ∀ o (ho : o < ls.length), W.cell? ⟨g, o, none⟩ = some (.string (bs ls[o])) := by
  obtain ⟨g', t', cs, fuel, p, h1, h2, h3, h4⟩ := h
  obtain rfl := Option.some.inj (hg.symm.trans h1)
  obtain rfl := Option.some.inj (ht.symm.trans h2)
  obtain ⟨xs, k, _, ex, _, hl, hel⟩ := DataW.trod_array hu h4
  have e1 : ls.map (fun s => (.lit (.string s) : DataW Unit)) = xs.map (·.1) := by have := (Prod.mk.inj ex).1; simpa using this
  intro o ho
  obtain ⟨y, hy⟩ := some_of hl (hm ▸ ho)
  have hE := hel o (hm ▸ ho)
  rw [hy, Tryd.cells9] at hE
  obtain ⟨s, e2, e3, _⟩ := DataW.trod_string Tryd.underlying9 hE
  have h5 := at_of e2
  rw [World.var?_cell hg h3 o]
  have h6 : cs[o]? = some (.string s) := by simpa using h5
  rw [h6]
  have h7 : (ls.map (fun s => (.lit (.string s) : DataW Unit)))[o]? = (xs.map (·.1))[o]? := by rw [e1]
  rw [List.getElem?_map, List.getElem?_map, hy, List.getElem?_eq_getElem ho] at h7
  simp only [Option.map_some, Option.some.injEq, e3, DataW.lit.injEq, Lit.string.injEq] at h7
  rw [h7, bs_of]
theorem keys_eq : (Rows.laid_carrel_scan_keywords : DataW Unit) = .agg (keysL.map fun s => .lit (.string s)) := rfl
theorem signs_eq : (Rows.laid_carrel_scan_signs : DataW Unit) = .agg (signsL.map fun s => .lit (.string s)) := rfl
theorem keys_of {W : World} (h : OneIs W "carrel/scan.keywords" Rows.laid_carrel_scan_keywords) : KVars W := by
  rw [keys_eq] at h
  have hk := strs_of (g := 1) h (by kernel_rfl) (by kernel_rfl) Tryd.underlying75 rfl
  exact ⟨World.block_lt_of_cell? W _ (hk 0 (by decide)), hk⟩
theorem vars_of {W : World} (h : OneIs W "carrel/scan.keywords" Rows.laid_carrel_scan_keywords) (hs : OneIs W "carrel/scan.signs" Rows.laid_carrel_scan_signs) : Vars W := by
  rw [signs_eq] at hs
  have hk := strs_of (g := 0) hs (by kernel_rfl) (by kernel_rfl) Tryd.underlying72 rfl
  have h1 := (keys_of h).1
  have h2 := World.block_lt_of_cell? W _ (hk 0 (by decide))
  exact ⟨keys_of h, (by simp at h1 h2 ⊢; omega), hk⟩
/-- The tables that a law lists. -/
def laid2 : List (String × DataW Unit) := Rows.treeWithinRow.laid
theorem vars_laid {W : World} (h : laidMetH Tryd.prog laid2 W) : Vars W := by
  rw [MakeChecks.laidMetH_plain _ _ _ (by kernel_rfl)] at h
  obtain ⟨ps, hl, _⟩ := h
  exact vars_of (laid_each hl ("carrel/scan.keywords", Rows.laid_carrel_scan_keywords) (by simp [laid2, Rows.treeWithinRow])) (laid_each hl ("carrel/scan.signs", Rows.laid_carrel_scan_signs) (by simp [laid2, Rows.treeWithinRow]))
/-- A contract at the worlds that a row speaks of, by its listed variables and by the shape of all others. -/
theorem returns_laid {C : Checked} {H : Type} {enc : TypeId × Value → H} {os : Os} {f : FuncId} {fn : Func} {s : ChangeSpec} {X : World → Array Value → Prop} (hX : ∀ (w w' : World) (args : Array Value), w.heap = w'.heap → X w args → X w' args)
    (own : ownKnob C.prog.godebug = none) (started : os.Started) (noInit : C.prog.inits.idxOf? f = none) (hfn : C.prog.funcs[f]? = some fn)
    (witness : ∃ (w : World) (tape : Tape) (i : Input), w.os = os ∧ (w.forCall tape i).Shaped C.prog ∧ i.vars = [] ∧ Input.okWide C.prog (w.forCall tape i) .any w.heap.size f i ∧
      ((s.pre enc C.prog fn [] false (w.forCall tape i).memory i.args ∧ X (w.forCall tape i).memory i.args) ∧ sizedMet enc C.prog fn (OpenSpec.ofChange s) false (w.forCall tape i).memory i.args) ∧ ({} : Assume).holds C.prog (lone (Frame.enter C.prog f i.args .normal) [] (w.forCall tape i)))
    (K : ∀ (W : World) (base : Nat) (args : Array Value) (ds gs : List (DataW H)) (before : List MemPlace), W.ShapedOpen C.prog → X W args →
      (∀ (j : Nat) t v, fn.params[j]? = some t → args[j]? = some v → Value.okWide C.prog W .any base t v) → DataW.Whole enc C.prog fn.params.toList s.vars false W args.toList ds gs before →
      Calls C.prog f args W fun e W' => ∃ v, e = .returned v ∧ s.post enc C.prog fn false true false false W args v W') :
    ReturnsInHanded {} C os f .any (fun w args => (s.pre enc C.prog fn [] false w args ∧ X w args) ∧ sizedMet enc C.prog fn (OpenSpec.ofChange s) false w args) (s.post enc C.prog fn false true false false) := by
  refine returnsInHanded_of_calls own started noInit witness fun w tape i _ hS _ ok pre _ => ?_
  obtain ⟨_, _, _, fn', h', _, _, _, _, hv⟩ := ok
  obtain rfl : fn' = fn := Option.some.inj (h'.symm.trans hfn)
  obtain ⟨⟨⟨ds, gs, before, hw, _⟩, hx⟩, _⟩ := pre
  refine (K (w.forCall tape i) w.heap.size i.args ds gs before hS (hX _ _ _ (by rfl) hx) hv (DataW.Whole.of_heap (w' := w.forCall tape i) (by rfl) hw)).mono fun e W' ⟨v, he, hp⟩ => ?_
  subst he
  exact ChangeSpec.post_blind hp
/-- .. told besides that what comes in is not too large. -/
theorem returns_sized {C : Checked} {H : Type} {enc : TypeId × Value → H} {os : Os} {f : FuncId} {fn : Func} {s : ChangeSpec} {X : World → Array Value → Prop} (hX : ∀ (w w' : World) (args : Array Value), w.heap = w'.heap → X w args → X w' args)
    (own : ownKnob C.prog.godebug = none) (started : os.Started) (noInit : C.prog.inits.idxOf? f = none) (hfn : C.prog.funcs[f]? = some fn)
    (witness : ∃ (w : World) (tape : Tape) (i : Input), w.os = os ∧ (w.forCall tape i).Shaped C.prog ∧ i.vars = [] ∧ Input.okWide C.prog (w.forCall tape i) .any w.heap.size f i ∧
      ((s.pre enc C.prog fn [] false (w.forCall tape i).memory i.args ∧ X (w.forCall tape i).memory i.args) ∧ sizedMet enc C.prog fn (OpenSpec.ofChange s) false (w.forCall tape i).memory i.args) ∧ ({} : Assume).holds C.prog (lone (Frame.enter C.prog f i.args .normal) [] (w.forCall tape i)))
    (K : ∀ (W : World) (base : Nat) (args : Array Value) (ds gs : List (DataW H)) (before : List MemPlace), W.ShapedOpen C.prog → X W args →
      (∀ (j : Nat) t v, fn.params[j]? = some t → args[j]? = some v → Value.okWide C.prog W .any base t v) → DataW.Whole enc C.prog fn.params.toList s.vars false W args.toList ds gs before →
      (∃ ds' gs' before', DataW.Whole enc C.prog fn.params.toList s.vars false W args.toList ds' gs' before' ∧ (DataW.weightsEach C.prog (fn.params.toList ++ (OpenSpec.ofChange s).bare.plain.varTypes C.prog) (ds' ++ gs')).all (· ≤ reachBytes) = true) →
      Calls C.prog f args W fun e W' => ∃ v, e = .returned v ∧ s.post enc C.prog fn false true false false W args v W') :
    ReturnsInHanded {} C os f .any (fun w args => (s.pre enc C.prog fn [] false w args ∧ X w args) ∧ sizedMet enc C.prog fn (OpenSpec.ofChange s) false w args) (s.post enc C.prog fn false true false false) := by
  refine returnsInHanded_of_calls own started noInit witness fun w tape i _ hS _ ok pre _ => ?_
  obtain ⟨_, _, _, fn', h', _, _, _, _, hv⟩ := ok
  obtain rfl : fn' = fn := Option.some.inj (h'.symm.trans hfn)
  obtain ⟨⟨⟨ds, gs, before, hw, _⟩, hx⟩, _, ds', gs', before', hw', hz'⟩ := pre
  refine (K (w.forCall tape i) w.heap.size i.args ds gs before hS (hX _ _ _ (by rfl) hx) hv (DataW.Whole.of_heap (w' := w.forCall tape i) (by rfl) hw) ⟨ds', gs', before', DataW.Whole.of_heap (w' := w.forCall tape i) (by rfl) hw', hz'⟩).mono fun e W' ⟨v, he, hp⟩ => ?_
  subst he
  exact ChangeSpec.post_blind hp
theorem ownK : ownKnob Tryd.prog.godebug = none := by kernel_rfl
theorem laidOutB8 : laidOutB Tryd.prog = true := by kernel_rfl
end Go.Proofs.YtendpkflckfgoaaDoor

namespace Go.Proofs.YtendpkflckfgoaaDoor
open Go.ChangeShapes Go.WideShapes Go.ChangeAt Go.RowKit
open Go.ChangeMaps (open_string shut_string)
set_option linter.unusedVariables false

namespace treeWithin
set_option maxRecDepth 100000 in
theorem lifted (os : Os) (started : os.Started) (H : Type) (enc : TypeId × Value → H) :
    ReturnsInHanded {} Tryd.checked os 3 .any (fun w args => (Rows.treeWithinSpec.pre enc Tryd.prog Tryd.f3 [] false w args ∧ laidMetH Tryd.prog laid2 w) ∧ sizedMet enc Tryd.prog Tryd.f3 (OpenSpec.ofChange Rows.treeWithinSpec) false w args)
      (Rows.treeWithinSpec.post enc Tryd.prog Tryd.f3 false true false false) := by
  refine returns_sized (C := Tryd.checked) (X := fun w _ => laidMetH Tryd.prog laid2 w) (fun _ _ _ hh h => h.of_heap hh) ownK started (by kernel_rfl) Tryd.func3
    (ChangeSpec.witness_shaped (enc := enc) (C := Tryd.checked) (os := os) (X := fun w _ => laidMetH Tryd.prog laid2 w) false (World.laidAll Tryd.prog os laid2) #[.string ⟨#[]⟩] 8 (World.laidAll_os _ _ _)
      (World.shaped_of_ZipB (by kernel_rfl) (by kernel_rfl)) (by kernel_rfl) (by kernel_rfl) (by kernel_rfl)
      (by rw [MakeChecks.laidMetH_plain _ _ _ (by kernel_rfl)]; exact laidMet_laidAll _ (by kernel_rfl) (by kernel_rfl))) ?_
  intro W base args ds gs before hS hL hval0 hW hZ
  have V := vars_laid hL
  clear hS hL
  have hval : ∀ (j : Nat) t v, Tryd.f3.params[j]? = some t → args[j]? = some v → Value.okWide Tryd.prog W .any base t v := hval0
  have hW' := hW
  obtain ⟨p, q, hA0, hV, rfl, hfz, hnd⟩ := hW
  have hA : DataW.TrodAll enc Tryd.prog W 0 (fun _ => true) true Tryd.f3.params.toList args.toList ds p := hA0
  rw [Tryd.params3] at hA hval
  obtain ⟨v0, vs0, d0, ds0, p0, q0, hargs, rfl, rfl, h0, r0⟩ := trodAll_cons hA
  obtain ⟨rfl, rfl, rfl⟩ := trodAll_nil r0
  obtain rfl : args = #[v0] := by cases args; simp_all
  obtain ⟨rfl, rfl⟩ := trodVars_none hV
  obtain ⟨s0, rfl, rfl, rfl, w0⟩ := open_string Tryd.underlying9 (hval 0 9 v0 rfl rfl) h0
  have hr : s0.size ≤ 4611686018427387904 := by
    obtain ⟨es, gs', before', ⟨p', q', hB0, hV', _⟩, hz⟩ := hZ
    have hB : DataW.TrodAll enc Tryd.prog W 0 (fun _ => true) true Tryd.f3.params.toList [.string s0] es p' := hB0
    rw [Tryd.params3] at hB
    obtain ⟨_, _, _, _, _, _, hx, rfl, rfl, k0, k1⟩ := trodAll_cons hB
    obtain ⟨rfl, rfl⟩ := List.cons.inj hx
    obtain ⟨_, e1, rfl, _, _⟩ := open_string Tryd.underlying9 (hval 0 9 _ rfl rfl) k0
    injection e1 with e1
    subst e1
    rw [Tryd.params3] at hz
    simp [DataW.weightsEach, DataW.weights, reachBytes] at hz
    have h3 := of_decide_eq_true hz.1
    omega
  clear hA0 hval0 hZ
  refine (within_any s0 hr W V).mono fun e W' ⟨he, bel⟩ => ?_
  subst he
  exact ⟨_, rfl, _, _, _, [], _, [], hW', trodAll_mk1 (shut_bool Tryd.underlying4 _), (trodAll_cons_mk (shut_string Tryd.underlying9 w0) trodAll_mk0), rfl, bel.frame _, fun h => by cases h⟩

theorem over : Rows.TreeWithinSaid :=
  OpenClaim.holds_of_wide 3 Tryd.f3 rfl rfl rfl rfl rfl rfl rfl ⟨rfl, rfl, rfl, rfl, rfl⟩ rfl rfl rfl rfl rfl (by kernel_rfl) Tryd.func3 (by kernel_rfl)
    (of_decide_eq_true (by kernel_rfl)) (by unfold Func.isWrapper; first | (rw [if_pos (by decide +kernel)]; kernel_rfl) | (rw [if_neg (by decide +kernel)]; exact ⟨rfl, rfl⟩))
    (fun os started H enc _ => lifted os started H enc)
end treeWithin
/-- The given card. -/
theorem treeWithin_holds : Rows.TreeWithinCardSaid :=
  Claim7.holds_tied_plain_at .later [] _ _ _ _ treeWithin.over (fun _ h => by cases h) (by kernel_rfl) (fun _ h => by cases h) treeWithin_row_tie rfl ⟨rfl, rfl⟩ (by kernel_rfl) rfl
    (fun f fn hf hfn => by
      obtain rfl : f = 3 := Option.some.inj ((show Tryd.prog.funcNamed "carrel/carrellaw09.TreeWithin" = some 3 by kernel_rfl).symm.trans hf) |>.symm
      obtain rfl : fn = Tryd.f3 := (Option.some.inj (Tryd.func3.symm.trans hfn)).symm
      exact ⟨by kernel_rfl, fun j t ht => by
        rw [Tryd.params3] at ht
        have hm : t ∈ [9] := by simpa using Array.mem_of_getElem? ht
        have hall : ([9].all fun u => !Tryd.prog.wantsStandIn u) = true := by kernel_rfl
        exact (show Tryd.prog.wantsStandIn t = false by simpa using List.all_eq_true.1 hall t hm)⟩)
    (by kernel_rfl)
#print axioms treeWithin_holds
end Go.Proofs.YtendpkflckfgoaaDoor
