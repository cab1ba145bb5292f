/-
  Layer 9, plain: how the grammar's statements, types, declarations and modules are read from tokens, over its expressions. Nothing of the program's run is in this text.
-/
import Derived.Test.YtllhcjmabhempaaDoorExp
namespace Go.Proofs.YtllhcjmabhempaaDoor
set_option linter.unusedVariables false
set_option linter.unusedSimpArgs false

def exprR (o : Nat) (t : List Tok) : Rs Nd := run (t.length * 40 + 20) .expr o t
def desigR (o : Nat) (t : List Tok) : Rs Nd := run (t.length * 40 + 10) .desig o t
def namedR (k : Int) (t : List Tok) : Rs Nd := (nameR t).bind fun x r => .ok (.mk k x.t 0 false [] x.p) r
def markedR (k : Int) (t : List Tok) : Rs Nd := (nameR t).bind fun x r => if wd r = [42] then .ok (.mk k x.t 0 true [] x.p) r.tail else .ok (.mk k x.t 0 false [] x.p) r
/-- Parts with a word between them. -/
def rowR (s : Bs) (part : List Tok → Rs Nd) : Nat → List Nd → List Tok → Rs Nd
  | 0, _, _ => .bad 0 0
  | f + 1, acc, t => (part t).bind fun x r => if wd r = s then rowR s part f (acc ++ [x]) r.tail else .ok (lst (acc ++ [x])) r
/-- Parts as long as a NAME stands there, each with a ; behind it. -/
def manyR (part : List Tok → Rs Nd) : Nat → List Nd → List Tok → Rs Nd
  | 0, _, _ => .bad 0 0
  | f + 1, acc, t => if (hd t).k = 1 then (part t).bind fun x r => (mustR [59] r).bind fun _ u => manyR part f (acc ++ [x]) u else .ok (lst acc) t
def sectR (key : Bs) (part : List Tok → Rs Nd) (t : List Tok) : Rs Nd := if wd t = key then manyR part (t.length + 1) [] t.tail else .ok (lst []) t

def blkN (p : Nat) (l : Nd) : Nd := .mk 16 [] 0 false l.kids p
def begins (t : List Tok) : Prop := (hd t).k = 1 ∨ wd t = [73, 70] ∨ wd t = [87, 72, 73, 76, 69] ∨ wd t = [82, 69, 80, 69, 65, 84] ∨ wd t = [70, 79, 82]
instance (t : List Tok) : Decidable (begins t) := by unfold begins; infer_instance
/-- What can be asked for of statements: a block's statements behind others, a statement, conditions and blocks behind others. -/
inductive NS where
  | block (acc : List Nd) | stat | br (s : Bs) (acc : List Nd)
def runS : Nat → NS → Nat → List Tok → Rs Nd
  | 0, _, _, _ => .bad 0 0
  | f + 1, .block acc, o, t =>
    if begins t then (runS f .stat o t).bind fun x r => if wd r = [59] then runS f (.block (acc ++ [x])) o r.tail else .ok (lst (acc ++ [x])) r
    else if wd t = [59] then runS f (.block acc) o t.tail else .ok (lst acc) t
  | f + 1, .br s acc, o, t => (exprR o t).bind fun c r => (mustR s r).bind fun _ u => (runS f (.block []) o u).bind fun l v =>
    if wd v = [69, 76, 83, 73, 70] then runS f (.br s (acc ++ [c, blkN (hd u).p l])) o v.tail else .ok (lst (acc ++ [c, blkN (hd u).p l])) v
  | f + 1, .stat, o, t =>
    if (hd t).k = 1 then (desigR o t).bind fun d r => if wd r = [58, 61] then (exprR o r.tail).bind fun y s => .ok (.mk 17 [] 0 false [d, y] (hd t).p) s else .ok (.mk 18 [] 0 false [d] (hd t).p) r
    else if wd t = [73, 70] then (beginR o t).bind fun x r => (runS f (.br [84, 72, 69, 78] []) (o + 1) r).bind fun l s =>
      (if wd s = [69, 76, 83, 69] then (runS f (.block []) (o + 1) s.tail).bind fun y u => .ok (lst (l.kids ++ [blkN (hd s.tail).p y])) u else .ok l s).bind fun l u => (mustR [69, 78, 68] u).bind fun _ v => .ok (.mk 19 [] 0 false l.kids x.p) v
    else if wd t = [87, 72, 73, 76, 69] then (beginR o t).bind fun x r => (runS f (.br [68, 79] []) (o + 1) r).bind fun l s => (mustR [69, 78, 68] s).bind fun _ v => .ok (.mk 20 [] 0 false l.kids x.p) v
    else if wd t = [82, 69, 80, 69, 65, 84] then (beginR o t).bind fun x r => (runS f (.block []) (o + 1) r).bind fun l s => (mustR [85, 78, 84, 73, 76] s).bind fun _ u => (exprR (o + 1) u).bind fun y v => .ok (.mk 21 [] 0 false [blkN (hd r).p l, y] x.p) v
    else (beginR o t).bind fun x r => (nameR r).bind fun z s => (mustR [58, 61] s).bind fun _ s => (exprR (o + 1) s).bind fun a s => (mustR [84, 79] s).bind fun _ s => (exprR (o + 1) s).bind fun c s =>
      (if wd s = [66, 89] then (exprR (o + 1) s.tail).bind fun d u => .ok (lst [a, c, d]) u else .ok (lst [a, c]) s).bind fun l s => (mustR [68, 79] s).bind fun _ u =>
      (runS f (.block []) (o + 1) u).bind fun y v => (mustR [69, 78, 68] v).bind fun _ v => .ok (.mk 22 z.t 0 false (l.kids ++ [blkN (hd u).p y]) x.p) v
def blockR (o : Nat) (t : List Tok) : Rs Nd := (runS (t.length * 4 + 4) (.block []) o t).bind fun l r => .ok (blkN (hd t).p l) r

/-- What can be asked for of types. -/
inductive NY where
  | type | arr (p : Nat)
def typedR (k : Int) (ident type : List Tok → Rs Nd) (t : List Tok) : Rs Nd := (rowR [44] ident (t.length + 1) [] t).bind fun l r => (mustR [58] r).bind fun _ s => (type s).bind fun y u => .ok (.mk k [] 0 false (l.kids ++ [y]) (hd t).p) u
def runY : Nat → NY → Nat → List Tok → Rs Nd
  | 0, _, _, _ => .bad 0 0
  | f + 1, .type, o, t =>
    if wd t = [65, 82, 82, 65, 89] then runY f (.arr (hd t).p) o t
    else if wd t = [82, 69, 67, 79, 82, 68] then (beginR o t).bind fun x r =>
      (if wd r = [40] then (nameR r.tail).bind fun z s => (mustR [41] s).bind fun _ u => .ok z u else .ok ⟨0, [], 0, 0⟩ r).bind fun z s =>
      (if wd s = [69, 78, 68] then .ok (lst []) s else rowR [59] (typedR 14 (namedR 9) (runY f .type (o + 1))) (s.length + 1) [] s).bind fun l u => (mustR [69, 78, 68] u).bind fun _ v => .ok (.mk 13 z.t 0 false l.kids x.p) v
    else if wd t = [80, 79, 73, 78, 84, 69, 82] then (mustR [84, 79] t.tail).bind fun _ r => (namedR 10 r).bind fun y s => .ok (.mk 15 [] 0 false [y] (hd t).p) s
    else namedR 10 t
  | f + 1, .arr p, o, t => (beginR o t).bind fun x r => (exprR (o + 1) r).bind fun y s =>
    (if wd s = [44] then runY f (.arr p) (o + 1) s else (mustR [79, 70] s).bind fun _ u => runY f .type (o + 1) u).bind fun z v => .ok (.mk 11 [] 0 false [y, z] p) v
def typeR (o : Nat) (t : List Tok) : Rs Nd := runY (t.length * 4 + 4) .type o t

def constR (o : Nat) (t : List Tok) : Rs Nd := (markedR 3 t).bind fun n r => (mustR [61] r).bind fun _ s => (exprR o s).bind fun y u => match n with
  | .mk k x v f _ p => .ok (.mk k x v f [y] p) u
def tnameR (o : Nat) (t : List Tok) : Rs Nd := (namedR 4 t).bind fun n r => (mustR [61] r).bind fun _ s => (typeR o s).bind fun y u => match n with
  | .mk k x v f _ p => .ok (.mk k x v f [y] p) u
def varsR (o : Nat) (t : List Tok) : Rs Nd := typedR 5 (markedR 9) (typeR o) t
def ptypeR (t : List Tok) : Rs Nd := if wd t = [65, 82, 82, 65, 89] then (mustR [79, 70] t.tail).bind fun _ r => (namedR 10 r).bind fun y s => .ok (.mk 12 [] 0 false [y] (hd t).p) s else namedR 10 t
def paramR (t : List Tok) : Rs Nd := (typedR 7 (namedR 9) ptypeR (if wd t = [86, 65, 82] then t.tail else t)).bind fun n r => .ok (.mk 7 [] 0 (decide (wd t = [86, 65, 82])) n.kids (hd t).p) r
def headR (t : List Tok) : Rs Nd := if wd t = [40] then
    (if wd t.tail = [41] then .ok (lst []) t.tail else rowR [59] paramR (t.length + 1) [] t.tail).bind fun l r => (mustR [41] r).bind fun _ s =>
    if wd s = [58] then (namedR 8 s.tail).bind fun y u => .ok (lst (l.kids ++ [y])) u else .ok (lst l.kids) s
  else .ok (lst []) t
def endR (x : Bs) (t : List Tok) : Rs Tok := (mustR [69, 78, 68] t).bind fun _ r => if (hd r).k = 1 ∧ (hd r).t ≠ x then .bad (hd r).p 92 else nameR r
/-- A block behind BEGIN, if that stands there. -/
def bodyR (o : Nat) (l : List Nd) (t : List Tok) : Rs Nd := if wd t = [66, 69, 71, 73, 78] then (blockR o t.tail).bind fun y r => .ok (lst (l ++ [y])) r else .ok (lst l) t
def procR (o : Nat) (t : List Tok) : Rs Nd := (mustR [80, 82, 79, 67, 69, 68, 85, 82, 69] t).bind fun x r => (markedR 6 r).bind fun n r => (headR r).bind fun l1 r => (mustR [59] r).bind fun _ r =>
  (sectR [67, 79, 78, 83, 84] (constR o) r).bind fun l2 r => (sectR [86, 65, 82] (varsR o) r).bind fun l3 r => (bodyR o (l1.kids ++ l2.kids ++ l3.kids) r).bind fun l4 r =>
  (if wd r = [82, 69, 84, 85, 82, 78] then (exprR o r.tail).bind fun y s => .ok (lst (l4.kids ++ [.mk 23 [] 0 false [y] (hd r).p])) s else .ok l4 r).bind fun l5 r => match n with
  | .mk k z v f _ _ => (endR z r).bind fun _ s => .ok (.mk k z v f l5.kids x.p) s
def procsR : Nat → List Nd → List Tok → Rs Nd
  | 0, _, _ => .bad 0 0
  | f + 1, acc, t => if wd t = [80, 82, 79, 67, 69, 68, 85, 82, 69] then (procR 0 t).bind fun x r => (mustR [59] r).bind fun _ u => procsR f (acc ++ [x]) u else .ok (lst acc) t
def moduleR (t : List Tok) : Rs Nd := (mustR [77, 79, 68, 85, 76, 69] t).bind fun x r => (nameR r).bind fun z r => (mustR [59] r).bind fun _ r =>
  (if wd r = [73, 77, 80, 79, 82, 84] then (rowR [44] (namedR 2) (r.length + 1) [] r.tail).bind fun l s => (mustR [59] s).bind fun _ u => .ok l u else .ok (lst []) r).bind fun l0 r =>
  (sectR [67, 79, 78, 83, 84] (constR 0) r).bind fun l1 r => (sectR [84, 89, 80, 69] (tnameR 0) r).bind fun l2 r => (sectR [86, 65, 82] (varsR 0) r).bind fun l3 r =>
  (procsR (r.length + 1) (l0.kids ++ l1.kids ++ l2.kids ++ l3.kids) r).bind fun l4 r => (bodyR 0 l4.kids r).bind fun l5 r => (endR z.t r).bind fun _ r => (mustR [46] r).bind fun _ s => .ok (.mk 1 z.t 0 false l5.kids x.p) s
end Go.Proofs.YtllhcjmabhempaaDoor
