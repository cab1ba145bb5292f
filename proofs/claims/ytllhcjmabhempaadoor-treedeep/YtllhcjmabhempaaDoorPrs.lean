/-
  Layer 9, plain: trees, and how the grammar's expressions are read from tokens. Nothing of the program's run is in this text.
-/
import Derived.Test.YtllhcjmabhempaaDoorTxt
namespace Go.Proofs.YtllhcjmabhempaaDoor
set_option linter.unusedVariables false
set_option linter.unusedSimpArgs false

/-- A tree. -/
inductive Nd where
  | mk (k : Int) (t : Bs) (n : Int) (f : Bool) (kids : List Nd) (p : Nat)
def Nd.kids : Nd → List Nd
  | .mk _ _ _ _ l _ => l
/-- What is read, and the tokens behind it; or a place and an error. -/
inductive Rs (α : Type) where
  | ok (a : α) (r : List Tok)
  | bad (p : Nat) (e : Int)
def Rs.bind {α β : Type} (x : Rs α) (f : α → List Tok → Rs β) : Rs β := match x with
  | .ok a r => f a r
  | .bad p e => .bad p e
theorem Rs.bind_ok {α β : Type} (a : α) (r : List Tok) (f : α → List Tok → Rs β) : (Rs.ok a r).bind f = f a r := rfl
theorem Rs.bind_bad {α β : Type} (p : Nat) (e : Int) (f : α → List Tok → Rs β) : (Rs.bad p e : Rs α).bind f = .bad p e := rfl
def hd (t : List Tok) : Tok := t.headD ⟨0, [], 0, 0⟩
/-- The keyword or the sign here. -/
def wd (t : List Tok) : Bs := if (hd t).k = 2 ∨ (hd t).k = 6 then (hd t).t else []
def nameR (t : List Tok) : Rs Tok := if (hd t).k = 1 then .ok (hd t) t.tail else .bad (hd t).p 90
def mustR (s : Bs) (t : List Tok) : Rs Tok := if wd t = s then .ok (hd t) t.tail else .bad (hd t).p 90
def beginR (o : Nat) (t : List Tok) : Rs Tok := if o = 24 then .bad (hd t).p 91 else .ok (hd t) t.tail
def rankP (s : Bs) : Int :=
  if s = [61] ∨ s = [35] ∨ s = [60] ∨ s = [60, 61] ∨ s = [62] ∨ s = [62, 61] ∨ s = [73, 78] ∨ s = [73, 83] then 1
  else if s = [43] ∨ s = [45] ∨ s = [79, 82] then 2
  else if s = [42] ∨ s = [47] ∨ s = [68, 73, 86] ∨ s = [77, 79, 68] ∨ s = [38] then 3 else 0
def binN (x : Tok) (l r : Nd) : Nd := .mk 37 x.t 0 false [l, r] x.p
def unN (x : Tok) (y : Nd) : Nd := .mk 36 x.t 0 false [y] x.p
/-- What can be asked for. -/
inductive NT where
  | expr | simple | simpleL (l : Nd) | first | term | termL (l : Nd) | factor | desig | desigL (l : Nd) | elem
  | row (s : Bs) (part : NT) (acc : List Nd)
def lst (l : List Nd) : Nd := .mk 0 [] 0 false l 0
/-- Indexes of one pair of brackets. -/
def idxN (p : Nat) (a : Nd) (l : List Nd) : Nd := l.foldl (fun n x => .mk 33 [] 0 false [n, x] p) a
/-- What is read of tokens, with so many things open. -/
def run : Nat → NT → Nat → List Tok → Rs Nd
  | 0, _, _, _ => .bad 0 0
  | f + 1, .expr, o, t => (run f .simple o t).bind fun l r => if rankP (wd r) = 1 then (run f .simple o r.tail).bind fun y s => .ok (binN (hd r) l y) s else .ok l r
  | f + 1, .simple, o, t => (run f .first o t).bind fun l r => run f (.simpleL l) o r
  | f + 1, .simpleL l, o, t => if rankP (wd t) = 2 then (run f .term o t.tail).bind fun y s => run f (.simpleL (binN (hd t) l y)) o s else .ok l t
  | f + 1, .first, o, t => if wd t = [43] ∨ wd t = [45] then (beginR o t).bind fun x r => (run f .term (o + 1) r).bind fun y s => .ok (unN x y) s else run f .term o t
  | f + 1, .term, o, t => (run f .factor o t).bind fun l r => run f (.termL l) o r
  | f + 1, .termL l, o, t => if rankP (wd t) = 3 then (run f .factor o t.tail).bind fun y s => run f (.termL (binN (hd t) l y)) o s else .ok l t
  | f + 1, .factor, o, t =>
    if (hd t).k = 1 then run f .desig o t
    else if (hd t).k = 3 then .ok (.mk 24 [] (hd t).n false [] (hd t).p) t.tail
    else if (hd t).k = 4 then .ok (.mk 25 [] (hd t).n false [] (hd t).p) t.tail
    else if (hd t).k = 5 then .ok (.mk 26 (hd t).t 0 false [] (hd t).p) t.tail
    else if wd t = [78, 73, 76] then .ok (.mk 27 [] 0 false [] (hd t).p) t.tail
    else if wd t = [84, 82, 85, 69] then .ok (.mk 28 [] 1 false [] (hd t).p) t.tail
    else if wd t = [70, 65, 76, 83, 69] then .ok (.mk 28 [] 0 false [] (hd t).p) t.tail
    else if wd t = [126] then (beginR o t).bind fun x r => (run f .factor (o + 1) r).bind fun y s => .ok (unN x y) s
    else if wd t = [123] then (beginR o t).bind fun x r =>
      (if wd r = [125] then .ok (lst []) r else run f (.row [44] .elem []) (o + 1) r).bind fun l s => (mustR [125] s).bind fun _ u => .ok (.mk 29 [] 0 false l.kids x.p) u
    else if wd t = [40] then (beginR o t).bind fun x r => (run f .expr (o + 1) r).bind fun y s => (mustR [41] s).bind fun _ u => .ok y u
    else .bad (hd t).p 90
  | f + 1, .elem, o, t => (run f .expr o t).bind fun x r => if wd r = [46, 46] then (run f .expr o r.tail).bind fun y s => .ok (.mk 30 [] 0 false [x, y] (hd r).p) s else .ok x r
  | f + 1, .desig, o, t => (nameR t).bind fun x r => run f (.desigL (.mk 31 x.t 0 false [] x.p)) o r
  | f + 1, .desigL l, o, t =>
    if wd t = [46] then (nameR t.tail).bind fun y s => run f (.desigL (.mk 32 y.t 0 false [l] (hd t).p)) o s
    else if wd t = [91] then (beginR o t).bind fun x r => (run f (.row [44] .expr []) (o + 1) r).bind fun y s => (mustR [93] s).bind fun _ u => run f (.desigL (idxN x.p l y.kids)) o u
    else if wd t = [94] then run f (.desigL (.mk 34 [] 0 false [l] (hd t).p)) o t.tail
    else if wd t = [40] then (beginR o t).bind fun x r =>
      (if wd r = [41] then .ok (lst []) r else run f (.row [44] .expr []) (o + 1) r).bind fun y s => (mustR [41] s).bind fun _ u => run f (.desigL (.mk 35 [] 0 false (l :: y.kids) x.p)) o u
    else .ok l t
  | f + 1, .row s p acc, o, t => (run f p o t).bind fun x r => if wd r = s then run f (.row s p (acc ++ [x])) o r.tail else .ok (lst (acc ++ [x])) r
end Go.Proofs.YtllhcjmabhempaaDoor
