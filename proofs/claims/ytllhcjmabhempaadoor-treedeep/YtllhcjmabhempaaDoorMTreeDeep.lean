/-
  Layer 9, plain: the tokens of a source. Nothing of the program's run is in this text but the names of what it answers.
  Layer 9: the laws' head.
  Layer 9, plain: texts in which n things of one kind are open, one within the other: 24 may be, and no more. Nothing of the program's run is in this text.
  Layer 9: the walk of TreeDeep.
  From what the program's text lays into the tables of keywords and signs to how they lie; the way from a contract to a row; texts that came in.
  Proved: for every two numbers the law TreeDeep returns true, where the tables of keywords and signs hold what their initialisers lay: of each kind of thing 24 may be open, one within the other, and no more. No other condition.
-/
import Derived.Test.YtllhcjmabhempaaDoorMWhm
import Derived.Test.YtllhcjmabhempaaDoorMPge
import Derived.Test.YtllhcjmabhempaaDoorTkn
import Derived.Test.YtllhcjmabhempaaDoorTie
import Derived.Test.YtllhcjmabhempaaDoorCards
import Derived.SliceStrings
import Derived.MakeChecks
import Derived.Lay
import Derived.LaidMore
import Derived.SevenTiedAt
import Derived.JoinedOf
import Derived.ChangeSame
import Derived.Handed
import Derived.SizedLaws
import Derived.ChangeOld
import Derived.Below
import Derived.Shelf.Vars
namespace Go.Proofs.YtllhcjmabhempaaDoor
set_option linter.unusedVariables false
set_option linter.unusedSimpArgs false

theorem good_ts (l : Bs) (h : (allP l).e = 0) : GoodT (allP l).ts := by
  obtain ⟨d, x, e1, e2, _⟩ := allP_shape l h
  have hl := allP_last l h
  refine ⟨by rw [e1]; simp, fun y r ⟨a, ha⟩ hk => ?_⟩
  have hq : a.length < (allP l).ts.length := by rw [← ha]; simp
  have hy : (allP l).ts[a.length] = y := by
    have h2 : (allP l).ts[a.length]? = some y := by rw [← ha]; simp
    rw [List.getElem?_eq_getElem hq] at h2
    exact Option.some.inj h2
  have := hl a.length hq (by rw [hy]; exact hk)
  rw [← ha] at this
  intro e
  rw [e] at this
  simp at this
theorem short (l : Bs) (h : (allP l).e = 0) : l.length ≤ 16384 := by
  by_cases hl : l.length ≤ 16384
  · exact hl
  · unfold allP at h; rw [if_pos (by omega)] at h; simp at h
end Go.Proofs.YtllhcjmabhempaaDoor

namespace Go.Proofs.YtllhcjmabhempaaDoor
set_option linter.unusedVariables false
set_option linter.unusedSimpArgs false
open Go.ChangeShapes Go.WideShapes Go.ChangeAt Go.RowKit



def shT : Bs := [49, 32, 43, 32, 120]
def shM : Nd := .mk 37 [43] 0 false [.mk 24 [] 1 false [] 0, .mk 31 [120] 0 false [] 4] 2
theorem shT_ans : ansP .expr shT = (shM, 0, 0) := by kernel_rfl
set_option maxHeartbeats 4000000 in
set_option maxRecDepth 20000 in
theorem shownT (w : World) (V : Vars w) : Calls Tryd.prog 5 #[] w fun e w' => e = .returned (.bool true) ∧ Below w.heap.size w w' := by
  have EX : Hid (Calls Tryd.prog 11 #[.string (bs shT)] w (PostA w (shM, 0, 0))) := by
    have := expr_any shT w V
    rwa [shT_ans] at this
  clear V
  have xb : ((bs [43]).toList == [43]) = true := by kernel_rfl
  have xc : (bs [43]).toList = [43] := by kernel_rfl
  go_enter Tryd.func5, Tryd.ntmps5
  go_wp2_with (go_at_call 11; refine EX.out.mono ?_; rintro e w1 ⟨c, rfl, nd, hb⟩; have hs := hb.size; have hc : ∃ a m, c = ⟨37, bs [43], 0, false, a, 2, m, 2⟩ := (by cases nd; exact ⟨_, _, rfl⟩); obtain ⟨a, m, rfl⟩ := hc)
  go_ret
  exact ⟨rfl, by go_grown⟩
end Go.Proofs.YtllhcjmabhempaaDoor

namespace Go.Proofs.YtllhcjmabhempaaDoor
set_option linter.unusedVariables false
set_option linter.unusedSimpArgs false

def rep (s : Bs) : Nat → Bs
  | 0 => []
  | n + 1 => s ++ rep s n
theorem rep_snoc (s : Bs) : ∀ n, rep s n ++ s = rep s (n + 1)
  | 0 => by simp [rep]
  | n + 1 => by rw [rep, List.append_assoc, rep_snoc s n]; rfl
theorem rep_add (s : Bs) : ∀ n m, rep s (n + m) = rep s n ++ rep s m
  | 0, m => by simp [rep]
  | n + 1, m => by rw [Nat.add_right_comm, rep, rep_add s n m, rep, List.append_assoc]
theorem rep_len (s : Bs) : ∀ n, (rep s n).length = n * s.length
  | 0 => by simp [rep]
  | n + 1 => by rw [rep, List.length_append, rep_len s n, Nat.succ_mul, Nat.add_comm]
def opn : Nat → Bs
  | 0 => [40]
  | 1 => [123]
  | 2 => [126]
  | 3 => [102, 40]
  | 4 => [97, 91]
  | 5 => [73, 70, 32, 97, 32, 84, 72, 69, 78, 32]
  | 6 => [65, 82, 82, 65, 89, 32, 49, 32, 79, 70, 32]
  | _ => [82, 69, 67, 79, 82, 68, 32, 97, 58, 32]
def cls : Nat → Bs
  | 0 => [41]
  | 1 => [125]
  | 2 => []
  | 3 => [41]
  | 4 => [93]
  | 5 => [32, 69, 78, 68]
  | 6 => []
  | _ => [32, 69, 78, 68]
def fstT : Nat → Bs
  | 0 => []
  | 1 => []
  | 2 => []
  | 3 => []
  | 4 => []
  | 5 => [77, 79, 68, 85, 76, 69, 32, 65, 59, 32, 66, 69, 71, 73, 78, 32]
  | 6 => [77, 79, 68, 85, 76, 69, 32, 65, 59, 32, 86, 65, 82, 32, 120, 58, 32]
  | _ => [77, 79, 68, 85, 76, 69, 32, 65, 59, 32, 86, 65, 82, 32, 120, 58, 32]
def midT : Nat → Bs
  | 0 => [49]
  | 1 => [49]
  | 2 => [49]
  | 3 => [49]
  | 4 => [49]
  | 5 => []
  | 6 => [84]
  | _ => [84]
def lstT : Nat → Bs
  | 0 => []
  | 1 => []
  | 2 => []
  | 3 => []
  | 4 => []
  | 5 => [32, 69, 78, 68, 32, 65, 46]
  | 6 => [59, 32, 69, 78, 68, 32, 65, 46]
  | _ => [59, 32, 69, 78, 68, 32, 65, 46]
/-- The text of a kind, with so many open. -/
def deepT (k n : Nat) : Bs := fstT k ++ (rep (opn k) n ++ (midT k ++ (rep (cls k) n ++ lstT k)))

/-- A piece of a text is read as tokens of its own, where what follows begins so. -/
def U (u : Bs) (o : Option UInt8) : Prop := ∃ T : Nat → List Tok, ∀ p Y, Y.head? = o → goX p (u ++ Y) = (goX (p + u.length) Y).pre (T p)
theorem U.none (o : Option UInt8) : U [] o := ⟨fun _ => [], fun p Y _ => by rw [pre_nil]; rfl⟩
theorem U.blank (o : Option UInt8) : U [32] o := ⟨fun _ => [], fun p Y _ => by
  rw [pre_nil]
  refine goX_same _ _ _ _ ?_ ?_
  · rw [List.singleton_append, skip_blk (by decide)]; simp only [List.length_singleton]; omega
  · rw [List.singleton_append, skip_blk (by decide), Nat.add_comm]; rfl⟩
theorem goX_tok (p : Nat) (x Y : Bs) (r : Rd) (hs : skip (x ++ Y) = 0) (hr : firstP (x ++ Y) = r) (he : r.e = 0) (hk : r.k ≠ 0) (hl : r.len = x.length) : goX p (x ++ Y) = (goX (p + x.length) Y).pre [⟨r.k, r.t, r.n, p⟩] := by
  have := (goX_step p (x ++ Y) r (by rw [hs]; exact hr) he hk).1
  rw [hs, hl] at this
  simpa using this
theorem U.tok {x : Bs} {c : UInt8} {r : Rd} (hs : ∀ Z, skip (x ++ c :: Z) = 0) (hr : ∀ Z, firstP (x ++ c :: Z) = r) (he : r.e = 0) (hk : r.k ≠ 0) (hl : r.len = x.length) : U x (some c) := ⟨fun p => [⟨r.k, r.t, r.n, p⟩], fun p Y h => by
  cases Y with
  | nil => simp at h
  | cons d Z => simp only [List.head?_cons, Option.some.injEq] at h; subst h; exact goX_tok p x _ r (hs Z) (hr Z) he hk hl⟩
theorem U.last {x : Bs} {r : Rd} (hs : skip x = 0) (hr : firstP x = r) (he : r.e = 0) (hk : r.k ≠ 0) (hl : r.len = x.length) : U x .none := ⟨fun p => [⟨r.k, r.t, r.n, p⟩], fun p Y h => by
  cases Y with
  | nil => exact goX_tok p x [] r (by rw [List.append_nil]; exact hs) (by rw [List.append_nil]; exact hr) he hk hl
  | cons d Z => simp at h⟩
theorem U.app {u v : Bs} {c : UInt8} {o : Option UInt8} (h1 : U u (some c)) (h2 : U v o) (hv : v.head? = some c) : U (u ++ v) o := by
  obtain ⟨T1, h1⟩ := h1
  obtain ⟨T2, h2⟩ := h2
  refine ⟨fun p => T1 p ++ T2 (p + u.length), fun p Y hY => ?_⟩
  rw [List.append_assoc, h1 p _ (by cases v with | nil => simp at hv | cons a b => simpa using hv), h2 _ Y hY, pre_pre, List.length_append, Nat.add_assoc]
theorem U.cast {u v : Bs} {o : Option UInt8} (h : U u o) (e : u = v) : U v o := by rw [← e]; exact h
theorem rep_head {u : Bs} {c : UInt8} (h : u.head? = some c) (n : Nat) : (rep u (n + 1)).head? = some c := by
  cases u with
  | nil => simp at h
  | cons a b => simpa [rep] using h
theorem U.rep {u : Bs} {c : UInt8} {o : Option UInt8} (h : u.head? = some c) (h1 : U u (some c)) (h2 : U u o) : ∀ n, U (rep u n) o
  | 0 => .none o
  | 1 => by rw [Proofs.YtllhcjmabhempaaDoor.rep, Proofs.YtllhcjmabhempaaDoor.rep, List.append_nil]; exact h2
  | n + 2 => U.app h1 (U.rep h h1 h2 (n + 1)) (rep_head h n)
/-- A text that is read without an error, wherever it stands. -/
def V (Y : Bs) : Prop := ∀ p, (goX p Y).e = 0
theorem pre_e (a : Al) (d : List Tok) : (a.pre d).e = a.e := by unfold Al.pre; split <;> rfl
theorem V.nil : V [] := fun p => rfl
theorem V.app {u Y : Bs} {o : Option UInt8} (h : U u o) (hY : Y.head? = o) (hv : V Y) : V (u ++ Y) := fun p => by
  obtain ⟨T, h⟩ := h
  rw [h p Y hY, pre_e]; exact hv _
theorem V.of {u : Bs} (h : U u .none) : V u := by have := V.app h (Y := []) rfl .nil; rwa [List.append_nil] at this
theorem tk0 : U [40] (some 40) := U.tok (r := ⟨6, [40], 0, 1, 0⟩) (fun Z => by kernel_rfl) (fun Z => by kernel_rfl) rfl (by decide) rfl
theorem tk1 : U [40] (some 49) := U.tok (r := ⟨6, [40], 0, 1, 0⟩) (fun Z => by kernel_rfl) (fun Z => by kernel_rfl) rfl (by decide) rfl
theorem tk2 : U [41] (some 41) := U.tok (r := ⟨6, [41], 0, 1, 0⟩) (fun Z => by kernel_rfl) (fun Z => by kernel_rfl) rfl (by decide) rfl
theorem tk3 : U [41] .none := U.last (r := ⟨6, [41], 0, 1, 0⟩) (by kernel_rfl) (by kernel_rfl) rfl (by decide) rfl
theorem tk4 : U [49] (some 41) := U.tok (r := ⟨3, [], 1, 1, 0⟩) (fun Z => by kernel_rfl) (fun Z => by kernel_rfl) rfl (by decide) rfl
theorem tk5 : U [123] (some 123) := U.tok (r := ⟨6, [123], 0, 1, 0⟩) (fun Z => by kernel_rfl) (fun Z => by kernel_rfl) rfl (by decide) rfl
theorem tk6 : U [123] (some 49) := U.tok (r := ⟨6, [123], 0, 1, 0⟩) (fun Z => by kernel_rfl) (fun Z => by kernel_rfl) rfl (by decide) rfl
theorem tk7 : U [125] (some 125) := U.tok (r := ⟨6, [125], 0, 1, 0⟩) (fun Z => by kernel_rfl) (fun Z => by kernel_rfl) rfl (by decide) rfl
theorem tk8 : U [125] .none := U.last (r := ⟨6, [125], 0, 1, 0⟩) (by kernel_rfl) (by kernel_rfl) rfl (by decide) rfl
theorem tk9 : U [49] (some 125) := U.tok (r := ⟨3, [], 1, 1, 0⟩) (fun Z => by kernel_rfl) (fun Z => by kernel_rfl) rfl (by decide) rfl
theorem tk10 : U [126] (some 126) := U.tok (r := ⟨6, [126], 0, 1, 0⟩) (fun Z => by kernel_rfl) (fun Z => by kernel_rfl) rfl (by decide) rfl
theorem tk11 : U [126] (some 49) := U.tok (r := ⟨6, [126], 0, 1, 0⟩) (fun Z => by kernel_rfl) (fun Z => by kernel_rfl) rfl (by decide) rfl
theorem tk12 : U [49] .none := U.last (r := ⟨3, [], 1, 1, 0⟩) (by kernel_rfl) (by kernel_rfl) rfl (by decide) rfl
theorem tk13 : U [40] (some 102) := U.tok (r := ⟨6, [40], 0, 1, 0⟩) (fun Z => by kernel_rfl) (fun Z => by kernel_rfl) rfl (by decide) rfl
theorem tk14 : U [102] (some 40) := U.tok (r := ⟨1, [102], 0, 1, 0⟩) (fun Z => by kernel_rfl) (fun Z => by kernel_rfl) rfl (by decide) rfl
theorem tk15 : U [91] (some 97) := U.tok (r := ⟨6, [91], 0, 1, 0⟩) (fun Z => by kernel_rfl) (fun Z => by kernel_rfl) rfl (by decide) rfl
theorem tk16 : U [97] (some 91) := U.tok (r := ⟨1, [97], 0, 1, 0⟩) (fun Z => by kernel_rfl) (fun Z => by kernel_rfl) rfl (by decide) rfl
theorem tk17 : U [91] (some 49) := U.tok (r := ⟨6, [91], 0, 1, 0⟩) (fun Z => by kernel_rfl) (fun Z => by kernel_rfl) rfl (by decide) rfl
theorem tk18 : U [93] (some 93) := U.tok (r := ⟨6, [93], 0, 1, 0⟩) (fun Z => by kernel_rfl) (fun Z => by kernel_rfl) rfl (by decide) rfl
theorem tk19 : U [93] .none := U.last (r := ⟨6, [93], 0, 1, 0⟩) (by kernel_rfl) (by kernel_rfl) rfl (by decide) rfl
theorem tk20 : U [49] (some 93) := U.tok (r := ⟨3, [], 1, 1, 0⟩) (fun Z => by kernel_rfl) (fun Z => by kernel_rfl) rfl (by decide) rfl
theorem tk21 : U [84, 72, 69, 78] (some 32) := U.tok (r := ⟨2, [84, 72, 69, 78], 0, 4, 0⟩) (fun Z => by kernel_rfl) (fun Z => by kernel_rfl) rfl (by decide) rfl
theorem tk22 : U [97] (some 32) := U.tok (r := ⟨1, [97], 0, 1, 0⟩) (fun Z => by kernel_rfl) (fun Z => by kernel_rfl) rfl (by decide) rfl
theorem tk23 : U [73, 70] (some 32) := U.tok (r := ⟨2, [73, 70], 0, 2, 0⟩) (fun Z => by kernel_rfl) (fun Z => by kernel_rfl) rfl (by decide) rfl
theorem tk24 : U [66, 69, 71, 73, 78] (some 32) := U.tok (r := ⟨2, [66, 69, 71, 73, 78], 0, 5, 0⟩) (fun Z => by kernel_rfl) (fun Z => by kernel_rfl) rfl (by decide) rfl
theorem tk25 : U [59] (some 32) := U.tok (r := ⟨6, [59], 0, 1, 0⟩) (fun Z => by kernel_rfl) (fun Z => by kernel_rfl) rfl (by decide) rfl
theorem tk26 : U [65] (some 59) := U.tok (r := ⟨1, [65], 0, 1, 0⟩) (fun Z => by kernel_rfl) (fun Z => by kernel_rfl) rfl (by decide) rfl
theorem tk27 : U [77, 79, 68, 85, 76, 69] (some 32) := U.tok (r := ⟨2, [77, 79, 68, 85, 76, 69], 0, 6, 0⟩) (fun Z => by kernel_rfl) (fun Z => by kernel_rfl) rfl (by decide) rfl
theorem tk28 : U [69, 78, 68] (some 32) := U.tok (r := ⟨2, [69, 78, 68], 0, 3, 0⟩) (fun Z => by kernel_rfl) (fun Z => by kernel_rfl) rfl (by decide) rfl
theorem tk29 : U [46] .none := U.last (r := ⟨6, [46], 0, 1, 0⟩) (by kernel_rfl) (by kernel_rfl) rfl (by decide) rfl
theorem tk30 : U [65] (some 46) := U.tok (r := ⟨1, [65], 0, 1, 0⟩) (fun Z => by kernel_rfl) (fun Z => by kernel_rfl) rfl (by decide) rfl
theorem tk31 : U [79, 70] (some 32) := U.tok (r := ⟨2, [79, 70], 0, 2, 0⟩) (fun Z => by kernel_rfl) (fun Z => by kernel_rfl) rfl (by decide) rfl
theorem tk32 : U [49] (some 32) := U.tok (r := ⟨3, [], 1, 1, 0⟩) (fun Z => by kernel_rfl) (fun Z => by kernel_rfl) rfl (by decide) rfl
theorem tk33 : U [65, 82, 82, 65, 89] (some 32) := U.tok (r := ⟨2, [65, 82, 82, 65, 89], 0, 5, 0⟩) (fun Z => by kernel_rfl) (fun Z => by kernel_rfl) rfl (by decide) rfl
theorem tk34 : U [58] (some 32) := U.tok (r := ⟨6, [58], 0, 1, 0⟩) (fun Z => by kernel_rfl) (fun Z => by kernel_rfl) rfl (by decide) rfl
theorem tk35 : U [120] (some 58) := U.tok (r := ⟨1, [120], 0, 1, 0⟩) (fun Z => by kernel_rfl) (fun Z => by kernel_rfl) rfl (by decide) rfl
theorem tk36 : U [86, 65, 82] (some 32) := U.tok (r := ⟨2, [86, 65, 82], 0, 3, 0⟩) (fun Z => by kernel_rfl) (fun Z => by kernel_rfl) rfl (by decide) rfl
theorem tk37 : U [84] (some 59) := U.tok (r := ⟨1, [84], 0, 1, 0⟩) (fun Z => by kernel_rfl) (fun Z => by kernel_rfl) rfl (by decide) rfl
theorem tk38 : U [97] (some 58) := U.tok (r := ⟨1, [97], 0, 1, 0⟩) (fun Z => by kernel_rfl) (fun Z => by kernel_rfl) rfl (by decide) rfl
theorem tk39 : U [82, 69, 67, 79, 82, 68] (some 32) := U.tok (r := ⟨2, [82, 69, 67, 79, 82, 68], 0, 6, 0⟩) (fun Z => by kernel_rfl) (fun Z => by kernel_rfl) rfl (by decide) rfl
theorem tk40 : U [69, 78, 68] (some 59) := U.tok (r := ⟨2, [69, 78, 68], 0, 3, 0⟩) (fun Z => by kernel_rfl) (fun Z => by kernel_rfl) rfl (by decide) rfl
theorem tk41 : U [84] (some 32) := U.tok (r := ⟨1, [84], 0, 1, 0⟩) (fun Z => by kernel_rfl) (fun Z => by kernel_rfl) rfl (by decide) rfl
theorem uo0 : U (opn 0) (some 40) := tk0
theorem um0 : U (opn 0) (some 49) := tk1
theorem uc0 : U (cls 0) (some 41) := tk2
theorem ul0 : U (cls 0) .none := tk3
theorem vl0 : V (lstT 0) := .nil
theorem vc0 (n : Nat) : V (rep (cls 0) (n + 1) ++ lstT 0) := .app (U.rep (c := 41) rfl uc0 ul0 (n + 1)) rfl vl0
theorem vm0 (n : Nat) : V (midT 0 ++ (rep (cls 0) (n + 1) ++ lstT 0)) := .app (o := some 41) tk4 (by rw [show rep (cls 0) (n + 1) = cls 0 ++ rep (cls 0) n from rfl]; rfl) (vc0 n)
theorem vo0 (m n : Nat) : V (rep (opn 0) (m + 1) ++ (midT 0 ++ (rep (cls 0) (n + 1) ++ lstT 0))) := .app (U.rep (c := 40) rfl uo0 um0 (m + 1)) (by simp [midT]) (vm0 n)
theorem ua0 : U (fstT 0 ++ rep (opn 0) 25) (some 40) := U.rep (c := 40) rfl uo0 uo0 25
theorem uo1 : U (opn 1) (some 123) := tk5
theorem um1 : U (opn 1) (some 49) := tk6
theorem uc1 : U (cls 1) (some 125) := tk7
theorem ul1 : U (cls 1) .none := tk8
theorem vl1 : V (lstT 1) := .nil
theorem vc1 (n : Nat) : V (rep (cls 1) (n + 1) ++ lstT 1) := .app (U.rep (c := 125) rfl uc1 ul1 (n + 1)) rfl vl1
theorem vm1 (n : Nat) : V (midT 1 ++ (rep (cls 1) (n + 1) ++ lstT 1)) := .app (o := some 125) tk9 (by rw [show rep (cls 1) (n + 1) = cls 1 ++ rep (cls 1) n from rfl]; rfl) (vc1 n)
theorem vo1 (m n : Nat) : V (rep (opn 1) (m + 1) ++ (midT 1 ++ (rep (cls 1) (n + 1) ++ lstT 1))) := .app (U.rep (c := 123) rfl uo1 um1 (m + 1)) (by simp [midT]) (vm1 n)
theorem ua1 : U (fstT 1 ++ rep (opn 1) 25) (some 123) := U.rep (c := 123) rfl uo1 uo1 25
theorem uo2 : U (opn 2) (some 126) := tk10
theorem um2 : U (opn 2) (some 49) := tk11
theorem vl2 : V (lstT 2) := .nil
theorem rep_nil2 : ∀ n, rep (cls 2) n = []
  | 0 => rfl
  | n + 1 => by rw [rep, rep_nil2 n]; rfl
theorem vm2 (n : Nat) : V (midT 2 ++ (rep (cls 2) (n + 1) ++ lstT 2)) := by rw [rep_nil2]; exact .app (o := .none) tk12 rfl vl2
theorem vo2 (m n : Nat) : V (rep (opn 2) (m + 1) ++ (midT 2 ++ (rep (cls 2) (n + 1) ++ lstT 2))) := .app (U.rep (c := 126) rfl uo2 um2 (m + 1)) (by simp [midT]) (vm2 n)
theorem ua2 : U (fstT 2 ++ rep (opn 2) 25) (some 126) := U.rep (c := 126) rfl uo2 uo2 25
theorem uo3 : U (opn 3) (some 102) := (U.cast (u := [102] ++ ([40])) (U.app (c := 40) tk14 tk13 rfl) (by kernel_rfl))
theorem um3 : U (opn 3) (some 49) := (U.cast (u := [102] ++ ([40])) (U.app (c := 40) tk14 tk1 rfl) (by kernel_rfl))
theorem uc3 : U (cls 3) (some 41) := tk2
theorem ul3 : U (cls 3) .none := tk3
theorem vl3 : V (lstT 3) := .nil
theorem vc3 (n : Nat) : V (rep (cls 3) (n + 1) ++ lstT 3) := .app (U.rep (c := 41) rfl uc3 ul3 (n + 1)) rfl vl3
theorem vm3 (n : Nat) : V (midT 3 ++ (rep (cls 3) (n + 1) ++ lstT 3)) := .app (o := some 41) tk4 (by rw [show rep (cls 3) (n + 1) = cls 3 ++ rep (cls 3) n from rfl]; rfl) (vc3 n)
theorem vo3 (m n : Nat) : V (rep (opn 3) (m + 1) ++ (midT 3 ++ (rep (cls 3) (n + 1) ++ lstT 3))) := .app (U.rep (c := 102) rfl uo3 um3 (m + 1)) (by simp [midT]) (vm3 n)
theorem ua3 : U (fstT 3 ++ rep (opn 3) 25) (some 102) := U.rep (c := 102) rfl uo3 uo3 25
theorem uo4 : U (opn 4) (some 97) := (U.cast (u := [97] ++ ([91])) (U.app (c := 91) tk16 tk15 rfl) (by kernel_rfl))
theorem um4 : U (opn 4) (some 49) := (U.cast (u := [97] ++ ([91])) (U.app (c := 91) tk16 tk17 rfl) (by kernel_rfl))
theorem uc4 : U (cls 4) (some 93) := tk18
theorem ul4 : U (cls 4) .none := tk19
theorem vl4 : V (lstT 4) := .nil
theorem vc4 (n : Nat) : V (rep (cls 4) (n + 1) ++ lstT 4) := .app (U.rep (c := 93) rfl uc4 ul4 (n + 1)) rfl vl4
theorem vm4 (n : Nat) : V (midT 4 ++ (rep (cls 4) (n + 1) ++ lstT 4)) := .app (o := some 93) tk20 (by rw [show rep (cls 4) (n + 1) = cls 4 ++ rep (cls 4) n from rfl]; rfl) (vc4 n)
theorem vo4 (m n : Nat) : V (rep (opn 4) (m + 1) ++ (midT 4 ++ (rep (cls 4) (n + 1) ++ lstT 4))) := .app (U.rep (c := 97) rfl uo4 um4 (m + 1)) (by simp [midT]) (vm4 n)
theorem ua4 : U (fstT 4 ++ rep (opn 4) 25) (some 97) := U.rep (c := 97) rfl uo4 uo4 25
theorem uo5 : U (opn 5) (some 73) := (U.cast (u := [73, 70] ++ ([32] ++ ([97] ++ ([32] ++ ([84, 72, 69, 78] ++ ([32])))))) (U.app (c := 32) tk23 (U.app (c := 97) (U.blank (some 97)) (U.app (c := 32) tk22 (U.app (c := 84) (U.blank (some 84)) (U.app (c := 32) tk21 (U.blank (some 73)) rfl) rfl) rfl) rfl) rfl) (by kernel_rfl))
theorem um5 : U (opn 5) (some 32) := (U.cast (u := [73, 70] ++ ([32] ++ ([97] ++ ([32] ++ ([84, 72, 69, 78] ++ ([32])))))) (U.app (c := 32) tk23 (U.app (c := 97) (U.blank (some 97)) (U.app (c := 32) tk22 (U.app (c := 84) (U.blank (some 84)) (U.app (c := 32) tk21 (U.blank (some 32)) rfl) rfl) rfl) rfl) rfl) (by kernel_rfl))
theorem up5 : U (fstT 5) (some 73) := (U.cast (u := [77, 79, 68, 85, 76, 69] ++ ([32] ++ ([65] ++ ([59] ++ ([32] ++ ([66, 69, 71, 73, 78] ++ ([32]))))))) (U.app (c := 32) tk27 (U.app (c := 65) (U.blank (some 65)) (U.app (c := 59) tk26 (U.app (c := 32) tk25 (U.app (c := 66) (U.blank (some 66)) (U.app (c := 32) tk24 (U.blank (some 73)) rfl) rfl) rfl) rfl) rfl) rfl) (by kernel_rfl))
theorem uc5 : U (cls 5) (some 32) := (U.cast (u := [32] ++ ([69, 78, 68])) (U.app (c := 69) (U.blank (some 69)) tk28 rfl) (by kernel_rfl))
theorem ul5 : U (cls 5) (some 32) := uc5
theorem vl5 : V (lstT 5) := (.of (U.cast (u := [32] ++ ([69, 78, 68] ++ ([32] ++ ([65] ++ ([46]))))) (U.app (c := 69) (U.blank (some 69)) (U.app (c := 32) tk28 (U.app (c := 65) (U.blank (some 65)) (U.app (c := 46) tk30 tk29 rfl) rfl) rfl) rfl) (by kernel_rfl)))
theorem vc5 (n : Nat) : V (rep (cls 5) (n + 1) ++ lstT 5) := .app (U.rep (c := 32) rfl uc5 ul5 (n + 1)) rfl vl5
theorem vm5 (n : Nat) : V (midT 5 ++ (rep (cls 5) (n + 1) ++ lstT 5)) := vc5 n
theorem vo5 (m n : Nat) : V (rep (opn 5) (m + 1) ++ (midT 5 ++ (rep (cls 5) (n + 1) ++ lstT 5))) := .app (U.rep (c := 73) rfl uo5 um5 (m + 1)) (by rw [show rep (cls 5) (n + 1) = cls 5 ++ rep (cls 5) n from rfl]; rfl) (vm5 n)
theorem ua5 : U (fstT 5 ++ rep (opn 5) 25) (some 73) := U.app up5 (U.rep (c := 73) rfl uo5 uo5 25) (rep_head rfl 24)
theorem uo6 : U (opn 6) (some 65) := (U.cast (u := [65, 82, 82, 65, 89] ++ ([32] ++ ([49] ++ ([32] ++ ([79, 70] ++ ([32])))))) (U.app (c := 32) tk33 (U.app (c := 49) (U.blank (some 49)) (U.app (c := 32) tk32 (U.app (c := 79) (U.blank (some 79)) (U.app (c := 32) tk31 (U.blank (some 65)) rfl) rfl) rfl) rfl) rfl) (by kernel_rfl))
theorem um6 : U (opn 6) (some 84) := (U.cast (u := [65, 82, 82, 65, 89] ++ ([32] ++ ([49] ++ ([32] ++ ([79, 70] ++ ([32])))))) (U.app (c := 32) tk33 (U.app (c := 49) (U.blank (some 49)) (U.app (c := 32) tk32 (U.app (c := 79) (U.blank (some 79)) (U.app (c := 32) tk31 (U.blank (some 84)) rfl) rfl) rfl) rfl) rfl) (by kernel_rfl))
theorem up6 : U (fstT 6) (some 65) := (U.cast (u := [77, 79, 68, 85, 76, 69] ++ ([32] ++ ([65] ++ ([59] ++ ([32] ++ ([86, 65, 82] ++ ([32] ++ ([120] ++ ([58] ++ ([32])))))))))) (U.app (c := 32) tk27 (U.app (c := 65) (U.blank (some 65)) (U.app (c := 59) tk26 (U.app (c := 32) tk25 (U.app (c := 86) (U.blank (some 86)) (U.app (c := 32) tk36 (U.app (c := 120) (U.blank (some 120)) (U.app (c := 58) tk35 (U.app (c := 32) tk34 (U.blank (some 65)) rfl) rfl) rfl) rfl) rfl) rfl) rfl) rfl) rfl) (by kernel_rfl))
theorem vl6 : V (lstT 6) := (.of (U.cast (u := [59] ++ ([32] ++ ([69, 78, 68] ++ ([32] ++ ([65] ++ ([46])))))) (U.app (c := 32) tk25 (U.app (c := 69) (U.blank (some 69)) (U.app (c := 32) tk28 (U.app (c := 65) (U.blank (some 65)) (U.app (c := 46) tk30 tk29 rfl) rfl) rfl) rfl) rfl) (by kernel_rfl)))
theorem rep_nil6 : ∀ n, rep (cls 6) n = []
  | 0 => rfl
  | n + 1 => by rw [rep, rep_nil6 n]; rfl
theorem vm6 (n : Nat) : V (midT 6 ++ (rep (cls 6) (n + 1) ++ lstT 6)) := by rw [rep_nil6]; exact .app (o := (some 59)) tk37 rfl vl6
theorem vo6 (m n : Nat) : V (rep (opn 6) (m + 1) ++ (midT 6 ++ (rep (cls 6) (n + 1) ++ lstT 6))) := .app (U.rep (c := 65) rfl uo6 um6 (m + 1)) (by simp [midT]) (vm6 n)
theorem ua6 : U (fstT 6 ++ rep (opn 6) 25) (some 65) := U.app up6 (U.rep (c := 65) rfl uo6 uo6 25) (rep_head rfl 24)
theorem uo7 : U (opn 7) (some 82) := (U.cast (u := [82, 69, 67, 79, 82, 68] ++ ([32] ++ ([97] ++ ([58] ++ ([32]))))) (U.app (c := 32) tk39 (U.app (c := 97) (U.blank (some 97)) (U.app (c := 58) tk38 (U.app (c := 32) tk34 (U.blank (some 82)) rfl) rfl) rfl) rfl) (by kernel_rfl))
theorem um7 : U (opn 7) (some 84) := (U.cast (u := [82, 69, 67, 79, 82, 68] ++ ([32] ++ ([97] ++ ([58] ++ ([32]))))) (U.app (c := 32) tk39 (U.app (c := 97) (U.blank (some 97)) (U.app (c := 58) tk38 (U.app (c := 32) tk34 (U.blank (some 84)) rfl) rfl) rfl) rfl) (by kernel_rfl))
theorem up7 : U (fstT 7) (some 82) := (U.cast (u := [77, 79, 68, 85, 76, 69] ++ ([32] ++ ([65] ++ ([59] ++ ([32] ++ ([86, 65, 82] ++ ([32] ++ ([120] ++ ([58] ++ ([32])))))))))) (U.app (c := 32) tk27 (U.app (c := 65) (U.blank (some 65)) (U.app (c := 59) tk26 (U.app (c := 32) tk25 (U.app (c := 86) (U.blank (some 86)) (U.app (c := 32) tk36 (U.app (c := 120) (U.blank (some 120)) (U.app (c := 58) tk35 (U.app (c := 32) tk34 (U.blank (some 82)) rfl) rfl) rfl) rfl) rfl) rfl) rfl) rfl) rfl) (by kernel_rfl))
theorem uc7 : U (cls 7) (some 32) := (U.cast (u := [32] ++ ([69, 78, 68])) (U.app (c := 69) (U.blank (some 69)) tk28 rfl) (by kernel_rfl))
theorem ul7 : U (cls 7) (some 59) := (U.cast (u := [32] ++ ([69, 78, 68])) (U.app (c := 69) (U.blank (some 69)) tk40 rfl) (by kernel_rfl))
theorem vl7 : V (lstT 7) := (.of (U.cast (u := [59] ++ ([32] ++ ([69, 78, 68] ++ ([32] ++ ([65] ++ ([46])))))) (U.app (c := 32) tk25 (U.app (c := 69) (U.blank (some 69)) (U.app (c := 32) tk28 (U.app (c := 65) (U.blank (some 65)) (U.app (c := 46) tk30 tk29 rfl) rfl) rfl) rfl) rfl) (by kernel_rfl)))
theorem vc7 (n : Nat) : V (rep (cls 7) (n + 1) ++ lstT 7) := .app (U.rep (c := 32) rfl uc7 ul7 (n + 1)) rfl vl7
theorem vm7 (n : Nat) : V (midT 7 ++ (rep (cls 7) (n + 1) ++ lstT 7)) := .app (o := some 32) tk41 (by rw [show rep (cls 7) (n + 1) = cls 7 ++ rep (cls 7) n from rfl]; rfl) (vc7 n)
theorem vo7 (m n : Nat) : V (rep (opn 7) (m + 1) ++ (midT 7 ++ (rep (cls 7) (n + 1) ++ lstT 7))) := .app (U.rep (c := 82) rfl uo7 um7 (m + 1)) (by simp [midT]) (vm7 n)
theorem ua7 : U (fstT 7 ++ rep (opn 7) 25) (some 82) := U.app up7 (U.rep (c := 82) rfl uo7 uo7 25) (rep_head rfl 24)
/-- A kind's texts from the 26th on: the same tokens ahead, none of them at fault. -/
structure Far (k : Nat) : Prop where
  c : ∃ c, (opn k).head? = some c ∧ U (fstT k ++ rep (opn k) 25) (some c)
  v : ∀ m n, V (rep (opn k) (m + 1) ++ (midT k ++ (rep (cls k) (n + 1) ++ lstT k)))
theorem far : ∀ k, k < 8 → Far k
  | 0, _ => ⟨⟨40, rfl, ua0⟩, vo0⟩
  | 1, _ => ⟨⟨123, rfl, ua1⟩, vo1⟩
  | 2, _ => ⟨⟨126, rfl, ua2⟩, vo2⟩
  | 3, _ => ⟨⟨102, rfl, ua3⟩, vo3⟩
  | 4, _ => ⟨⟨97, rfl, ua4⟩, vo4⟩
  | 5, _ => ⟨⟨73, rfl, ua5⟩, vo5⟩
  | 6, _ => ⟨⟨65, rfl, ua6⟩, vo6⟩
  | 7, _ => ⟨⟨82, rfl, ua7⟩, vo7⟩
  | k + 8, h => by omega
theorem lens : ∀ k, (fstT k).length ≤ 20 ∧ (opn k).length ≤ 11 ∧ (midT k).length ≤ 1 ∧ (cls k).length ≤ 4 ∧ (lstT k).length ≤ 8
  | 0 => by decide
  | 1 => by decide
  | 2 => by decide
  | 3 => by decide
  | 4 => by decide
  | 5 => by decide
  | 6 => by decide
  | k + 7 => by simp [fstT, opn, midT, cls, lstT]
theorem deep_len (k n : Nat) (hn : n ≤ 200) : (deepT k n).length ≤ 16384 := by
  obtain ⟨h1, h2, h3, h4, h5⟩ := lens k
  have e1 : n * (opn k).length ≤ 200 * 11 := Nat.mul_le_mul hn h2
  have e2 : n * (cls k).length ≤ 200 * 4 := Nat.mul_le_mul hn h4
  simp only [deepT, List.length_append, rep_len]; omega
/-- What stands behind the 25th. -/
def tailT (k m n : Nat) : Bs := rep (opn k) (m + 1) ++ (midT k ++ (rep (cls k) n ++ lstT k))
theorem deep_cut (k m : Nat) : deepT k (m + 26) = (fstT k ++ rep (opn k) 25) ++ tailT k m (m + 26) := by
  unfold deepT tailT
  rw [show m + 26 = 25 + (m + 1) by omega, rep_add (opn k) 25 (m + 1)]; simp only [List.append_assoc]
/-- The tokens of such a text: those of the first 25, the same in all, and others. -/
theorem deep_toks (k : Nat) (hk : k < 8) : ∃ A P, P = (fstT k ++ rep (opn k) 25).length ∧ ∀ m, m ≤ 174 → allP (deepT k (m + 26)) = ⟨A ++ (goX P (tailT k m (m + 26))).ts, 0, 0⟩ := by
  obtain ⟨c, hc, T, hT⟩ := (far k hk).c
  refine ⟨T 0, _, rfl, fun m hm => ?_⟩
  have hv := (far k hk).v m (m + 25) (0 + (fstT k ++ rep (opn k) 25).length)
  have ht : (tailT k m (m + 26)).head? = some c := by
    have := rep_head hc m
    unfold tailT
    cases he : rep (opn k) (m + 1) with
    | nil => rw [he] at this; simp at this
    | cons a b => rw [he] at this; simpa using this
  have hg := hT 0 (tailT k m (m + 26)) ht
  rw [← deep_cut] at hg
  have he : (goX 0 (deepT k (m + 26))).e = 0 := by rw [hg, pre_e]; exact hv
  rw [allP_goX _ (deep_len k (m + 26) (by omega))]
  obtain ⟨d, x, _, _, _, hp⟩ := goX_shape _ 0 (deepT k (m + 26)) (Nat.le_refl _) he
  have h2 : goX 0 (deepT k (m + 26)) = ⟨(goX 0 (deepT k (m + 26))).ts, 0, 0⟩ := by
    cases hx : goX 0 (deepT k (m + 26)) with
    | mk a b c => rw [hx] at hp he; simp only at hp he; rw [hp, he]
  rw [h2, hg, Nat.zero_add]
  have h3 : (goX (fstT k ++ rep (opn k) 25).length (tailT k m (m + 26))).e = 0 := by rw [Nat.zero_add] at hv; exact hv
  unfold Al.pre; rw [if_pos h3]
/-- An expression's tokens, as a reader. -/
def exprW : Pg Nd := .len fun n => runP (n * 40 + 40) .expr 0
theorem exec_exprW (t : List Tok) : exec exprW t = run (t.length * 40 + 40) .expr 0 t := by unfold exprW; rw [exec_len, exec_run]
theorem exec_stops {p : Pg Nd} (hp : PL (TkL false Eq) (NdL Eq) p p) (ho : OkP p) (hE : ∀ n, En p n) {A B B' : List Tok} {q : Nat} {e : Int} (hn : A ≠ []) (g1 : GoodT (A ++ B)) (g2 : GoodT (A ++ B')) (h : exec p (A ++ B) = .bad q e) (he : e ≠ 0) (hq : q ∉ B.map (·.p)) : exec p (A ++ B') = .bad q e := by
  rcases loc_exec hp ho ho B B' (TksL.refl A) hn g1 g2 with ⟨n, n', C, C', h1, _⟩ | ⟨q1, q2, e1, h1, h2, h3, _⟩ | h1 | ⟨h1, _⟩
  · rw [h] at h1; cases h1
  · rw [h] at h1; injection h1 with a b; subst a b; rw [h2, ← h3]
  · exact (h1.elim (hE _ _ g1 (Nat.le_refl _)) (hE _ _ g2 (Nat.le_refl _))).elim
  · rw [h] at h1
    rcases h1 with h1 | h1
    · exact absurd h1 hq
    · exact absurd h1.2 he
theorem expr_stops {A B B' : List Tok} {q : Nat} {e : Int} (hn : A ≠ []) (g1 : GoodT (A ++ B)) (g2 : GoodT (A ++ B')) (h : run ((A ++ B).length * 40 + 40) .expr 0 (A ++ B) = .bad q e) (he : e ≠ 0) (hq : q ∉ B.map (·.p)) : run ((A ++ B').length * 40 + 40) .expr 0 (A ++ B') = .bad q e := by
  rw [← exec_exprW] at h ⊢
  exact exec_stops (.len fun n n' => pl_run rfl _ _ _ _ 0 .expr) (.len fun n => ok_run _ _ 0 trivial) (fun n => .len fun m _ => en_run _ _ 0 m trivial (by simp only [lw]; omega)) hn g1 g2 h he hq
def badAt (r : Rs Nd) (B : List Tok) : Bool := match r with
  | .bad p e => decide (e = 91) && !((B.map (·.p)).contains p)
  | .ok _ _ => false
theorem badAt_of {r : Rs Nd} {B : List Tok} (h : badAt r B = true) : ∃ q, r = .bad q 91 ∧ q ∉ B.map (·.p) := by
  cases r with
  | ok a b => cases h
  | bad p e =>
    simp only [badAt, Bool.and_eq_true, decide_eq_true_eq, Bool.not_eq_true'] at h
    obtain ⟨rfl, h⟩ := h
    exact ⟨p, rfl, fun hm => by rw [List.contains_iff_mem.2 hm] at h; cases h⟩
theorem fall0 : badAt (run ((allP (deepT 0 26)).ts.length * 40 + 40) .expr 0 (allP (deepT 0 26)).ts) (goX (fstT 0 ++ rep (opn 0) 25).length (tailT 0 0 26)).ts = true := by kernel_rfl
theorem near0 : ∀ n, n < 26 → (ansP .expr (deepT 0 n)).2.2 = if n ≤ 24 then 0 else 91 := of_decide_eq_true (by kernel_rfl)
theorem fall1 : badAt (run ((allP (deepT 1 26)).ts.length * 40 + 40) .expr 0 (allP (deepT 1 26)).ts) (goX (fstT 1 ++ rep (opn 1) 25).length (tailT 1 0 26)).ts = true := by kernel_rfl
theorem near1 : ∀ n, n < 26 → (ansP .expr (deepT 1 n)).2.2 = if n ≤ 24 then 0 else 91 := of_decide_eq_true (by kernel_rfl)
theorem fall2 : badAt (run ((allP (deepT 2 26)).ts.length * 40 + 40) .expr 0 (allP (deepT 2 26)).ts) (goX (fstT 2 ++ rep (opn 2) 25).length (tailT 2 0 26)).ts = true := by kernel_rfl
theorem near2 : ∀ n, n < 26 → (ansP .expr (deepT 2 n)).2.2 = if n ≤ 24 then 0 else 91 := of_decide_eq_true (by kernel_rfl)
theorem fall3 : badAt (run ((allP (deepT 3 26)).ts.length * 40 + 40) .expr 0 (allP (deepT 3 26)).ts) (goX (fstT 3 ++ rep (opn 3) 25).length (tailT 3 0 26)).ts = true := by kernel_rfl
theorem near3 : ∀ n, n < 26 → (ansP .expr (deepT 3 n)).2.2 = if n ≤ 24 then 0 else 91 := of_decide_eq_true (by kernel_rfl)
theorem fall4 : badAt (run ((allP (deepT 4 26)).ts.length * 40 + 40) .expr 0 (allP (deepT 4 26)).ts) (goX (fstT 4 ++ rep (opn 4) 25).length (tailT 4 0 26)).ts = true := by kernel_rfl
theorem near4 : ∀ n, n < 26 → (ansP .expr (deepT 4 n)).2.2 = if n ≤ 24 then 0 else 91 := of_decide_eq_true (by kernel_rfl)
theorem fall5 : badAt (moduleR (allP (deepT 5 26)).ts) (goX (fstT 5 ++ rep (opn 5) 25).length (tailT 5 0 26)).ts = true := by kernel_rfl
theorem near5 : ∀ n, n < 26 → (ansM (deepT 5 n)).2.2 = if n ≤ 24 then 0 else 91 := of_decide_eq_true (by kernel_rfl)
theorem fall6 : badAt (moduleR (allP (deepT 6 26)).ts) (goX (fstT 6 ++ rep (opn 6) 25).length (tailT 6 0 26)).ts = true := by kernel_rfl
theorem near6 : ∀ n, n < 26 → (ansM (deepT 6 n)).2.2 = if n ≤ 24 then 0 else 91 := of_decide_eq_true (by kernel_rfl)
theorem fall7 : badAt (moduleR (allP (deepT 7 26)).ts) (goX (fstT 7 ++ rep (opn 7) 25).length (tailT 7 0 26)).ts = true := by kernel_rfl
theorem near7 : ∀ n, n < 26 → (ansM (deepT 7 n)).2.2 = if n ≤ 24 then 0 else 91 := of_decide_eq_true (by kernel_rfl)
theorem fallE (k : Nat) (hk : k < 5) : badAt (run ((allP (deepT k 26)).ts.length * 40 + 40) .expr 0 (allP (deepT k 26)).ts) (goX (fstT k ++ rep (opn k) 25).length (tailT k 0 26)).ts = true := by
  match k, hk with
  | 0, _ => exact fall0
  | 1, _ => exact fall1
  | 2, _ => exact fall2
  | 3, _ => exact fall3
  | 4, _ => exact fall4
theorem fallM (k : Nat) (hk : k < 8) (h5 : 5 ≤ k) : badAt (moduleR (allP (deepT k 26)).ts) (goX (fstT k ++ rep (opn k) 25).length (tailT k 0 26)).ts = true := by
  match k, hk, h5 with
  | 5, _, _ => exact fall5
  | 6, _, _ => exact fall6
  | 7, _, _ => exact fall7
theorem nearE (k : Nat) (hk : k < 5) : ∀ n, n < 26 → (ansP .expr (deepT k n)).2.2 = if n ≤ 24 then 0 else 91 := by
  match k, hk with
  | 0, _ => exact near0
  | 1, _ => exact near1
  | 2, _ => exact near2
  | 3, _ => exact near3
  | 4, _ => exact near4
theorem nearM (k : Nat) (hk : k < 8) (h5 : 5 ≤ k) : ∀ n, n < 26 → (ansM (deepT k n)).2.2 = if n ≤ 24 then 0 else 91 := by
  match k, hk, h5 with
  | 5, _, _ => exact near5
  | 6, _, _ => exact near6
  | 7, _, _ => exact near7
theorem first_toks {k : Nat} {A : List Tok} {P m : Nat} (h : allP (deepT k (m + 26)) = ⟨A ++ (goX P (tailT k m (m + 26))).ts, 0, 0⟩) : GoodT (A ++ (goX P (tailT k m (m + 26))).ts) := by
  have := good_ts (deepT k (m + 26)) (by rw [h])
  rwa [h] at this
theorem more : ∀ k, k < 8 → (goX (fstT k ++ rep (opn k) 25).length (tailT k 0 26)).ts.length < (allP (deepT k 26)).ts.length := of_decide_eq_true (by kernel_rfl)
theorem A_ne0 (k : Nat) (hk : k < 8) {A : List Tok} {P : Nat} (hP : P = (fstT k ++ rep (opn k) 25).length) (hA : ∀ m, m ≤ 174 → allP (deepT k (m + 26)) = ⟨A ++ (goX P (tailT k m (m + 26))).ts, 0, 0⟩) : A ≠ [] := by
  rintro rfl
  have h := more k hk
  have h0 := hA 0 (by omega)
  rw [← hP, show (26 : Nat) = 0 + 26 from rfl, h0] at h
  simp at h
/-- Of brackets, signs, sets, calls, indexes 24 may be open. -/
theorem deepE (k n : Nat) (hk : k < 5) (hn : n ≤ 200) : (ansP .expr (deepT k n)).2.2 = if n ≤ 24 then 0 else 91 := by
  by_cases h : n < 26
  · exact nearE k hk n h
  · obtain ⟨m, rfl⟩ : ∃ m, n = m + 26 := ⟨n - 26, by omega⟩
    obtain ⟨A, P, hP, hA⟩ := deep_toks k (by omega)
    have h0 := hA 0 (by omega)
    have h1 := hA m (by omega)
    have hb := fallE k hk
    rw [← hP] at hb
    rw [show (26 : Nat) = 0 + 26 from rfl, h0] at hb
    obtain ⟨q, hq, hn'⟩ := badAt_of hb
    have hs := expr_stops (A_ne0 k (by omega) hP hA) (first_toks h0) (first_toks h1) hq (by decide) hn'
    rw [if_neg (by omega)]
    unfold ansP
    rw [h1]
    simp only [ne_eq, not_true_eq_false, if_false]
    rw [hs]
/-- Of statements and types, too. -/
theorem deepM (k n : Nat) (hk : k < 8) (h5 : 5 ≤ k) (hn : n ≤ 200) : (ansM (deepT k n)).2.2 = if n ≤ 24 then 0 else 91 := by
  by_cases h : n < 26
  · exact nearM k hk h5 n h
  · obtain ⟨m, rfl⟩ : ∃ m, n = m + 26 := ⟨n - 26, by omega⟩
    obtain ⟨A, P, hP, hA⟩ := deep_toks k hk
    have h0 := hA 0 (by omega)
    have h1 := hA m (by omega)
    have hb := fallM k hk h5
    rw [← hP] at hb
    rw [show (26 : Nat) = 0 + 26 from rfl, h0] at hb
    obtain ⟨q, hq, hn'⟩ := badAt_of hb
    have hs := module_stops (A_ne0 k hk hP hA) (first_toks h0) (first_toks h1) hq (by decide) hn'
    rw [if_neg (by omega)]
    unfold ansM
    rw [h1]
    simp only [ne_eq, not_true_eq_false, if_false]
    rw [hs]
end Go.Proofs.YtllhcjmabhempaaDoor

namespace Go.Proofs.YtllhcjmabhempaaDoor
set_option linter.unusedVariables false
set_option linter.unusedSimpArgs false
open Go.ChangeShapes Go.WideShapes Go.ChangeAt Go.RowKit



set_option maxHeartbeats 4000000 in
set_option maxRecDepth 20000 in
theorem repeated_any (s : Bs) (n : Nat) (hn : n ≤ 200) (hs : s.length ≤ 11) (w : World) : Calls Tryd.prog 10 #[.string (bs s), .int .i64 (n : Int)] w fun e w' => e = .returned (.string (bs (rep s n))) ∧ w' = w := by
  obtain ⟨F, hF⟩ : ∃ F : Nat → ByteArray, ∀ i, F i = bs (rep s i) := ⟨_, fun _ => rfl⟩
  have h0 : F 0 = ⟨#[]⟩ := hF 0
  have hx : ∀ i, F i ++ bs s = F (i + 1) := fun i => by rw [hF, hF, bs_app, rep_snoc]
  have hz : ∀ i, i ≤ 200 → (F i).size ≤ 2200 := fun i hi => by
    rw [hF, bs_size, rep_len]
    exact Nat.mul_le_mul hi hs
  have hq : (bs s).size ≤ 11 := by rw [bs_size]; exact hs
  rw [← hF]
  generalize bs s = S at *
  have HX : Hid (∀ i, F i ++ S = F (i + 1)) := hx
  have HZ : Hid (∀ i, i ≤ 200 → (F i).size ≤ 2200) := hz
  clear hF hx hz
  go_enter Tryd.func10, Tryd.ntmps10
  go_wp2
  go_loopg [5, 6] n (fun gf s5 s6 wx => ∃ i : Nat, s5 = .string (F i) ∧ s6 = .int .i64 (i : Int) ∧ i + gf = n ∧ wx = w)
  case atStart => exact ⟨0, by rw [h0], rfl, by omega, rfl⟩
  case round =>
    obtain ⟨i, rfl, rfl, hi, hww⟩ := hrel
    obtain rfl := hww.symm
    have hzi := HZ.out i (by omega)
    have hrs := HX.out i
    by_cases hgo : i < n
    · obtain ⟨g', rfl⟩ : ∃ g', gk = g' + 1 := ⟨gk - 1, by omega⟩
      have d1 : decide ((i : Int) < (n : Int)) = true := by simpa using hgo
      go_wp2
      go_roundg g'
      case measure => omega
      case rel => exact ⟨i + 1, by first | rfl | exact congrArg _ hrs, by simp, by omega, rfl⟩
    · obtain rfl : i = n := by omega
      have d1 : decide ((i : Int) < (i : Int)) = false := by simp
      clear hrs
      go_wp2
      go_ret
      exact ⟨rfl, rfl⟩
set_option maxHeartbeats 8000000 in
set_option maxRecDepth 20000 in
theorem deep_go0 (m : Nat) (hm : m ≤ 200) (w : World) (V : Vars w) : Calls Tryd.prog 4 #[.int .i64 (m : Int), .int .i64 0] w fun e w' => e = .returned (.bool true) ∧ Below w.heap.size w w' := by
  have SH := shownT w V
  obtain ⟨F, hF⟩ : ∃ F : Array UInt8 → ByteArray, ∀ a, F a = bs (rep a.toList m) := ⟨_, fun _ => rfl⟩
  have RP : Hid (∀ (a : Array UInt8) X, a.size ≤ 11 → Calls Tryd.prog 10 #[.string ⟨a⟩, .int .i64 (m : Int)] X fun e w' => e = .returned (.string (F a)) ∧ w' = X) := fun a X ha => by
    have := repeated_any a.toList m hm (by simpa using ha) X
    rw [← hF] at this
    cases a; exact this
  obtain ⟨nn, pp, ee, hans⟩ : ∃ a b c, ansP .expr (deepT 0 m) = (a, b, c) := ⟨_, _, _, rfl⟩
  have hee := deepE 0 m (by omega) hm
  rw [hans] at hee
  simp only at hee
  have EX : Hid (∀ X, Below w.heap.size w X → Calls Tryd.prog 11 #[.string (bs (deepT 0 m))] X fun e w' => ∃ c, e = .returned (.tuple #[.agg (Nc.cells c), .int .i64 (pp : Int), .int .i64 ee]) ∧ Below w.heap.size w w') := fun X hX => by
    have := expr_any (deepT 0 m) X (V.below hX V.big2)
    rw [hans] at this
    exact this.mono fun e w' ⟨c, he, _, hb⟩ => ⟨c, he, hX.trans (hb.mono hX.size)⟩
  have hz : ∀ a : Array UInt8, a.size ≤ 11 → (F a).size ≤ 2200 := fun a ha => by
    rw [hF, bs_size, rep_len]
    exact Nat.mul_le_mul hm (by simpa using ha)
  have z1 := hz #[40] (by decide)
  have z2 := hz #[41] (by decide)
  have ct : (F #[40] ++ ⟨#[49]⟩) ++ F #[41] = bs (deepT 0 m) := by
    rw [hF, hF]
    simp only [show (⟨#[49]⟩ : ByteArray) = bs [49] from rfl]
    simp only [bs_app, List.append_assoc]
    simp [deepT, fstT, opn, midT, cls, lstT]
  generalize bs (deepT 0 m) = T at *
  clear V hans hF hz
  by_cases h24 : m ≤ 24
  · rw [if_pos h24] at hee
    subst hee
    have d24 : decide ((m : Int) ≤ 24) = true := decide_eq_true (by omega)
    have d0 : decide ((m : Int) < 0) = false := decide_eq_false (by omega)
    have d2 : decide ((200 : Int) < (m : Int)) = false := decide_eq_false (by omega)
    go_enter Tryd.func4, Tryd.ntmps4
    go_wp2_with (first
      | (go_at_call 11; refine (EX.out _ (by go_grown)).mono ?_; rintro e' w2 ⟨c2, rfl, hb2⟩; have hs2 := hb2.size)
      | (go_at_call 10; refine (RP.out _ _ (by decide)).mono ?_; rintro e' W' ⟨rfl, hw⟩; rw [hw]; clear hw)
      | (go_at_call 5; refine SH.mono ?_; rintro e' w0 ⟨rfl, hb0⟩; have hs0 := hb0.size))
    go_ret
    exact ⟨rfl, hb2⟩
  · rw [if_neg h24] at hee
    subst hee
    have d24 : decide ((m : Int) ≤ 24) = false := decide_eq_false (by omega)
    have d0 : decide ((m : Int) < 0) = false := decide_eq_false (by omega)
    have d2 : decide ((200 : Int) < (m : Int)) = false := decide_eq_false (by omega)
    go_enter Tryd.func4, Tryd.ntmps4
    go_wp2_with (first
      | (go_at_call 11; refine (EX.out _ (by go_grown)).mono ?_; rintro e' w2 ⟨c2, rfl, hb2⟩; have hs2 := hb2.size)
      | (go_at_call 10; refine (RP.out _ _ (by decide)).mono ?_; rintro e' W' ⟨rfl, hw⟩; rw [hw]; clear hw)
      | (go_at_call 5; refine SH.mono ?_; rintro e' w0 ⟨rfl, hb0⟩; have hs0 := hb0.size))
    go_ret
    exact ⟨rfl, hb2⟩
set_option maxHeartbeats 8000000 in
set_option maxRecDepth 20000 in
theorem deep_go1 (m : Nat) (hm : m ≤ 200) (w : World) (V : Vars w) : Calls Tryd.prog 4 #[.int .i64 (m : Int), .int .i64 1] w fun e w' => e = .returned (.bool true) ∧ Below w.heap.size w w' := by
  have SH := shownT w V
  obtain ⟨F, hF⟩ : ∃ F : Array UInt8 → ByteArray, ∀ a, F a = bs (rep a.toList m) := ⟨_, fun _ => rfl⟩
  have RP : Hid (∀ (a : Array UInt8) X, a.size ≤ 11 → Calls Tryd.prog 10 #[.string ⟨a⟩, .int .i64 (m : Int)] X fun e w' => e = .returned (.string (F a)) ∧ w' = X) := fun a X ha => by
    have := repeated_any a.toList m hm (by simpa using ha) X
    rw [← hF] at this
    cases a; exact this
  obtain ⟨nn, pp, ee, hans⟩ : ∃ a b c, ansP .expr (deepT 1 m) = (a, b, c) := ⟨_, _, _, rfl⟩
  have hee := deepE 1 m (by omega) hm
  rw [hans] at hee
  simp only at hee
  have EX : Hid (∀ X, Below w.heap.size w X → Calls Tryd.prog 11 #[.string (bs (deepT 1 m))] X fun e w' => ∃ c, e = .returned (.tuple #[.agg (Nc.cells c), .int .i64 (pp : Int), .int .i64 ee]) ∧ Below w.heap.size w w') := fun X hX => by
    have := expr_any (deepT 1 m) X (V.below hX V.big2)
    rw [hans] at this
    exact this.mono fun e w' ⟨c, he, _, hb⟩ => ⟨c, he, hX.trans (hb.mono hX.size)⟩
  have hz : ∀ a : Array UInt8, a.size ≤ 11 → (F a).size ≤ 2200 := fun a ha => by
    rw [hF, bs_size, rep_len]
    exact Nat.mul_le_mul hm (by simpa using ha)
  have z1 := hz #[123] (by decide)
  have z2 := hz #[125] (by decide)
  have ct : (F #[123] ++ ⟨#[49]⟩) ++ F #[125] = bs (deepT 1 m) := by
    rw [hF, hF]
    simp only [show (⟨#[49]⟩ : ByteArray) = bs [49] from rfl]
    simp only [bs_app, List.append_assoc]
    simp [deepT, fstT, opn, midT, cls, lstT]
  generalize bs (deepT 1 m) = T at *
  clear V hans hF hz
  by_cases h24 : m ≤ 24
  · rw [if_pos h24] at hee
    subst hee
    have d24 : decide ((m : Int) ≤ 24) = true := decide_eq_true (by omega)
    have d0 : decide ((m : Int) < 0) = false := decide_eq_false (by omega)
    have d2 : decide ((200 : Int) < (m : Int)) = false := decide_eq_false (by omega)
    go_enter Tryd.func4, Tryd.ntmps4
    go_wp2_with (first
      | (go_at_call 11; refine (EX.out _ (by go_grown)).mono ?_; rintro e' w2 ⟨c2, rfl, hb2⟩; have hs2 := hb2.size)
      | (go_at_call 10; refine (RP.out _ _ (by decide)).mono ?_; rintro e' W' ⟨rfl, hw⟩; rw [hw]; clear hw)
      | (go_at_call 5; refine SH.mono ?_; rintro e' w0 ⟨rfl, hb0⟩; have hs0 := hb0.size))
    go_ret
    exact ⟨rfl, hb2⟩
  · rw [if_neg h24] at hee
    subst hee
    have d24 : decide ((m : Int) ≤ 24) = false := decide_eq_false (by omega)
    have d0 : decide ((m : Int) < 0) = false := decide_eq_false (by omega)
    have d2 : decide ((200 : Int) < (m : Int)) = false := decide_eq_false (by omega)
    go_enter Tryd.func4, Tryd.ntmps4
    go_wp2_with (first
      | (go_at_call 11; refine (EX.out _ (by go_grown)).mono ?_; rintro e' w2 ⟨c2, rfl, hb2⟩; have hs2 := hb2.size)
      | (go_at_call 10; refine (RP.out _ _ (by decide)).mono ?_; rintro e' W' ⟨rfl, hw⟩; rw [hw]; clear hw)
      | (go_at_call 5; refine SH.mono ?_; rintro e' w0 ⟨rfl, hb0⟩; have hs0 := hb0.size))
    go_ret
    exact ⟨rfl, hb2⟩
set_option maxHeartbeats 8000000 in
set_option maxRecDepth 20000 in
theorem deep_go2 (m : Nat) (hm : m ≤ 200) (w : World) (V : Vars w) : Calls Tryd.prog 4 #[.int .i64 (m : Int), .int .i64 2] w fun e w' => e = .returned (.bool true) ∧ Below w.heap.size w w' := by
  have SH := shownT w V
  obtain ⟨F, hF⟩ : ∃ F : Array UInt8 → ByteArray, ∀ a, F a = bs (rep a.toList m) := ⟨_, fun _ => rfl⟩
  have RP : Hid (∀ (a : Array UInt8) X, a.size ≤ 11 → Calls Tryd.prog 10 #[.string ⟨a⟩, .int .i64 (m : Int)] X fun e w' => e = .returned (.string (F a)) ∧ w' = X) := fun a X ha => by
    have := repeated_any a.toList m hm (by simpa using ha) X
    rw [← hF] at this
    cases a; exact this
  obtain ⟨nn, pp, ee, hans⟩ : ∃ a b c, ansP .expr (deepT 2 m) = (a, b, c) := ⟨_, _, _, rfl⟩
  have hee := deepE 2 m (by omega) hm
  rw [hans] at hee
  simp only at hee
  have EX : Hid (∀ X, Below w.heap.size w X → Calls Tryd.prog 11 #[.string (bs (deepT 2 m))] X fun e w' => ∃ c, e = .returned (.tuple #[.agg (Nc.cells c), .int .i64 (pp : Int), .int .i64 ee]) ∧ Below w.heap.size w w') := fun X hX => by
    have := expr_any (deepT 2 m) X (V.below hX V.big2)
    rw [hans] at this
    exact this.mono fun e w' ⟨c, he, _, hb⟩ => ⟨c, he, hX.trans (hb.mono hX.size)⟩
  have hz : ∀ a : Array UInt8, a.size ≤ 11 → (F a).size ≤ 2200 := fun a ha => by
    rw [hF, bs_size, rep_len]
    exact Nat.mul_le_mul hm (by simpa using ha)
  have z1 := hz #[126] (by decide)
  have z2 := hz #[] (by decide)
  have ct : (F #[126] ++ ⟨#[49]⟩) ++ F #[] = bs (deepT 2 m) := by
    rw [hF, hF]
    simp only [show (⟨#[49]⟩ : ByteArray) = bs [49] from rfl]
    simp only [bs_app, List.append_assoc]
    simp [deepT, fstT, opn, midT, cls, lstT]
  generalize bs (deepT 2 m) = T at *
  clear V hans hF hz
  by_cases h24 : m ≤ 24
  · rw [if_pos h24] at hee
    subst hee
    have d24 : decide ((m : Int) ≤ 24) = true := decide_eq_true (by omega)
    have d0 : decide ((m : Int) < 0) = false := decide_eq_false (by omega)
    have d2 : decide ((200 : Int) < (m : Int)) = false := decide_eq_false (by omega)
    go_enter Tryd.func4, Tryd.ntmps4
    go_wp2_with (first
      | (go_at_call 11; refine (EX.out _ (by go_grown)).mono ?_; rintro e' w2 ⟨c2, rfl, hb2⟩; have hs2 := hb2.size)
      | (go_at_call 10; refine (RP.out _ _ (by decide)).mono ?_; rintro e' W' ⟨rfl, hw⟩; rw [hw]; clear hw)
      | (go_at_call 5; refine SH.mono ?_; rintro e' w0 ⟨rfl, hb0⟩; have hs0 := hb0.size))
    go_ret
    exact ⟨rfl, hb2⟩
  · rw [if_neg h24] at hee
    subst hee
    have d24 : decide ((m : Int) ≤ 24) = false := decide_eq_false (by omega)
    have d0 : decide ((m : Int) < 0) = false := decide_eq_false (by omega)
    have d2 : decide ((200 : Int) < (m : Int)) = false := decide_eq_false (by omega)
    go_enter Tryd.func4, Tryd.ntmps4
    go_wp2_with (first
      | (go_at_call 11; refine (EX.out _ (by go_grown)).mono ?_; rintro e' w2 ⟨c2, rfl, hb2⟩; have hs2 := hb2.size)
      | (go_at_call 10; refine (RP.out _ _ (by decide)).mono ?_; rintro e' W' ⟨rfl, hw⟩; rw [hw]; clear hw)
      | (go_at_call 5; refine SH.mono ?_; rintro e' w0 ⟨rfl, hb0⟩; have hs0 := hb0.size))
    go_ret
    exact ⟨rfl, hb2⟩
set_option maxHeartbeats 8000000 in
set_option maxRecDepth 20000 in
theorem deep_go3 (m : Nat) (hm : m ≤ 200) (w : World) (V : Vars w) : Calls Tryd.prog 4 #[.int .i64 (m : Int), .int .i64 3] w fun e w' => e = .returned (.bool true) ∧ Below w.heap.size w w' := by
  have SH := shownT w V
  obtain ⟨F, hF⟩ : ∃ F : Array UInt8 → ByteArray, ∀ a, F a = bs (rep a.toList m) := ⟨_, fun _ => rfl⟩
  have RP : Hid (∀ (a : Array UInt8) X, a.size ≤ 11 → Calls Tryd.prog 10 #[.string ⟨a⟩, .int .i64 (m : Int)] X fun e w' => e = .returned (.string (F a)) ∧ w' = X) := fun a X ha => by
    have := repeated_any a.toList m hm (by simpa using ha) X
    rw [← hF] at this
    cases a; exact this
  obtain ⟨nn, pp, ee, hans⟩ : ∃ a b c, ansP .expr (deepT 3 m) = (a, b, c) := ⟨_, _, _, rfl⟩
  have hee := deepE 3 m (by omega) hm
  rw [hans] at hee
  simp only at hee
  have EX : Hid (∀ X, Below w.heap.size w X → Calls Tryd.prog 11 #[.string (bs (deepT 3 m))] X fun e w' => ∃ c, e = .returned (.tuple #[.agg (Nc.cells c), .int .i64 (pp : Int), .int .i64 ee]) ∧ Below w.heap.size w w') := fun X hX => by
    have := expr_any (deepT 3 m) X (V.below hX V.big2)
    rw [hans] at this
    exact this.mono fun e w' ⟨c, he, _, hb⟩ => ⟨c, he, hX.trans (hb.mono hX.size)⟩
  have hz : ∀ a : Array UInt8, a.size ≤ 11 → (F a).size ≤ 2200 := fun a ha => by
    rw [hF, bs_size, rep_len]
    exact Nat.mul_le_mul hm (by simpa using ha)
  have z1 := hz #[102, 40] (by decide)
  have z2 := hz #[41] (by decide)
  have ct : (F #[102, 40] ++ ⟨#[49]⟩) ++ F #[41] = bs (deepT 3 m) := by
    rw [hF, hF]
    simp only [show (⟨#[49]⟩ : ByteArray) = bs [49] from rfl]
    simp only [bs_app, List.append_assoc]
    simp [deepT, fstT, opn, midT, cls, lstT]
  generalize bs (deepT 3 m) = T at *
  clear V hans hF hz
  by_cases h24 : m ≤ 24
  · rw [if_pos h24] at hee
    subst hee
    have d24 : decide ((m : Int) ≤ 24) = true := decide_eq_true (by omega)
    have d0 : decide ((m : Int) < 0) = false := decide_eq_false (by omega)
    have d2 : decide ((200 : Int) < (m : Int)) = false := decide_eq_false (by omega)
    go_enter Tryd.func4, Tryd.ntmps4
    go_wp2_with (first
      | (go_at_call 11; refine (EX.out _ (by go_grown)).mono ?_; rintro e' w2 ⟨c2, rfl, hb2⟩; have hs2 := hb2.size)
      | (go_at_call 10; refine (RP.out _ _ (by decide)).mono ?_; rintro e' W' ⟨rfl, hw⟩; rw [hw]; clear hw)
      | (go_at_call 5; refine SH.mono ?_; rintro e' w0 ⟨rfl, hb0⟩; have hs0 := hb0.size))
    go_ret
    exact ⟨rfl, hb2⟩
  · rw [if_neg h24] at hee
    subst hee
    have d24 : decide ((m : Int) ≤ 24) = false := decide_eq_false (by omega)
    have d0 : decide ((m : Int) < 0) = false := decide_eq_false (by omega)
    have d2 : decide ((200 : Int) < (m : Int)) = false := decide_eq_false (by omega)
    go_enter Tryd.func4, Tryd.ntmps4
    go_wp2_with (first
      | (go_at_call 11; refine (EX.out _ (by go_grown)).mono ?_; rintro e' w2 ⟨c2, rfl, hb2⟩; have hs2 := hb2.size)
      | (go_at_call 10; refine (RP.out _ _ (by decide)).mono ?_; rintro e' W' ⟨rfl, hw⟩; rw [hw]; clear hw)
      | (go_at_call 5; refine SH.mono ?_; rintro e' w0 ⟨rfl, hb0⟩; have hs0 := hb0.size))
    go_ret
    exact ⟨rfl, hb2⟩
set_option maxHeartbeats 8000000 in
set_option maxRecDepth 20000 in
theorem deep_go4 (m : Nat) (hm : m ≤ 200) (w : World) (V : Vars w) : Calls Tryd.prog 4 #[.int .i64 (m : Int), .int .i64 4] w fun e w' => e = .returned (.bool true) ∧ Below w.heap.size w w' := by
  have SH := shownT w V
  obtain ⟨F, hF⟩ : ∃ F : Array UInt8 → ByteArray, ∀ a, F a = bs (rep a.toList m) := ⟨_, fun _ => rfl⟩
  have RP : Hid (∀ (a : Array UInt8) X, a.size ≤ 11 → Calls Tryd.prog 10 #[.string ⟨a⟩, .int .i64 (m : Int)] X fun e w' => e = .returned (.string (F a)) ∧ w' = X) := fun a X ha => by
    have := repeated_any a.toList m hm (by simpa using ha) X
    rw [← hF] at this
    cases a; exact this
  obtain ⟨nn, pp, ee, hans⟩ : ∃ a b c, ansP .expr (deepT 4 m) = (a, b, c) := ⟨_, _, _, rfl⟩
  have hee := deepE 4 m (by omega) hm
  rw [hans] at hee
  simp only at hee
  have EX : Hid (∀ X, Below w.heap.size w X → Calls Tryd.prog 11 #[.string (bs (deepT 4 m))] X fun e w' => ∃ c, e = .returned (.tuple #[.agg (Nc.cells c), .int .i64 (pp : Int), .int .i64 ee]) ∧ Below w.heap.size w w') := fun X hX => by
    have := expr_any (deepT 4 m) X (V.below hX V.big2)
    rw [hans] at this
    exact this.mono fun e w' ⟨c, he, _, hb⟩ => ⟨c, he, hX.trans (hb.mono hX.size)⟩
  have hz : ∀ a : Array UInt8, a.size ≤ 11 → (F a).size ≤ 2200 := fun a ha => by
    rw [hF, bs_size, rep_len]
    exact Nat.mul_le_mul hm (by simpa using ha)
  have z1 := hz #[97, 91] (by decide)
  have z2 := hz #[93] (by decide)
  have ct : (F #[97, 91] ++ ⟨#[49]⟩) ++ F #[93] = bs (deepT 4 m) := by
    rw [hF, hF]
    simp only [show (⟨#[49]⟩ : ByteArray) = bs [49] from rfl]
    simp only [bs_app, List.append_assoc]
    simp [deepT, fstT, opn, midT, cls, lstT]
  generalize bs (deepT 4 m) = T at *
  clear V hans hF hz
  by_cases h24 : m ≤ 24
  · rw [if_pos h24] at hee
    subst hee
    have d24 : decide ((m : Int) ≤ 24) = true := decide_eq_true (by omega)
    have d0 : decide ((m : Int) < 0) = false := decide_eq_false (by omega)
    have d2 : decide ((200 : Int) < (m : Int)) = false := decide_eq_false (by omega)
    go_enter Tryd.func4, Tryd.ntmps4
    go_wp2_with (first
      | (go_at_call 11; refine (EX.out _ (by go_grown)).mono ?_; rintro e' w2 ⟨c2, rfl, hb2⟩; have hs2 := hb2.size)
      | (go_at_call 10; refine (RP.out _ _ (by decide)).mono ?_; rintro e' W' ⟨rfl, hw⟩; rw [hw]; clear hw)
      | (go_at_call 5; refine SH.mono ?_; rintro e' w0 ⟨rfl, hb0⟩; have hs0 := hb0.size))
    go_ret
    exact ⟨rfl, hb2⟩
  · rw [if_neg h24] at hee
    subst hee
    have d24 : decide ((m : Int) ≤ 24) = false := decide_eq_false (by omega)
    have d0 : decide ((m : Int) < 0) = false := decide_eq_false (by omega)
    have d2 : decide ((200 : Int) < (m : Int)) = false := decide_eq_false (by omega)
    go_enter Tryd.func4, Tryd.ntmps4
    go_wp2_with (first
      | (go_at_call 11; refine (EX.out _ (by go_grown)).mono ?_; rintro e' w2 ⟨c2, rfl, hb2⟩; have hs2 := hb2.size)
      | (go_at_call 10; refine (RP.out _ _ (by decide)).mono ?_; rintro e' W' ⟨rfl, hw⟩; rw [hw]; clear hw)
      | (go_at_call 5; refine SH.mono ?_; rintro e' w0 ⟨rfl, hb0⟩; have hs0 := hb0.size))
    go_ret
    exact ⟨rfl, hb2⟩
set_option maxHeartbeats 8000000 in
set_option maxRecDepth 20000 in
theorem deep_go5 (m : Nat) (hm : m ≤ 200) (w : World) (V : Vars w) : Calls Tryd.prog 4 #[.int .i64 (m : Int), .int .i64 5] w fun e w' => e = .returned (.bool true) ∧ Below w.heap.size w w' := by
  have SH := shownT w V
  obtain ⟨F, hF⟩ : ∃ F : Array UInt8 → ByteArray, ∀ a, F a = bs (rep a.toList m) := ⟨_, fun _ => rfl⟩
  have RP : Hid (∀ (a : Array UInt8) X, a.size ≤ 11 → Calls Tryd.prog 10 #[.string ⟨a⟩, .int .i64 (m : Int)] X fun e w' => e = .returned (.string (F a)) ∧ w' = X) := fun a X ha => by
    have := repeated_any a.toList m hm (by simpa using ha) X
    rw [← hF] at this
    cases a; exact this
  obtain ⟨nn, pp, ee, hans⟩ : ∃ a b c, ansM (deepT 5 m) = (a, b, c) := ⟨_, _, _, rfl⟩
  have hee := deepM 5 m (by omega) (by omega) hm
  rw [hans] at hee
  simp only at hee
  have EX : Hid (∀ X, Below w.heap.size w X → Calls Tryd.prog 8 #[.string (bs (deepT 5 m))] X fun e w' => ∃ c, e = .returned (.tuple #[.agg (Nc.cells c), .int .i64 (pp : Int), .int .i64 ee]) ∧ Below w.heap.size w w') := fun X hX => by
    have := modules_any (deepT 5 m) X (V.below hX V.big2)
    rw [hans] at this
    exact this.mono fun e w' ⟨c, he, _, hb⟩ => ⟨c, he, hX.trans (hb.mono hX.size)⟩
  have hz : ∀ a : Array UInt8, a.size ≤ 11 → (F a).size ≤ 2200 := fun a ha => by
    rw [hF, bs_size, rep_len]
    exact Nat.mul_le_mul hm (by simpa using ha)
  have z1 := hz #[73, 70, 32, 97, 32, 84, 72, 69, 78, 32] (by decide)
  have z2 := hz #[32, 69, 78, 68] (by decide)
  have ct : ((⟨#[77, 79, 68, 85, 76, 69, 32, 65, 59, 32, 66, 69, 71, 73, 78, 32]⟩ ++ F #[73, 70, 32, 97, 32, 84, 72, 69, 78, 32]) ++ F #[32, 69, 78, 68]) ++ ⟨#[32, 69, 78, 68, 32, 65, 46]⟩ = bs (deepT 5 m) := by
    rw [hF, hF]
    simp only [show (⟨#[32, 69, 78, 68, 32, 65, 46]⟩ : ByteArray) = bs [32, 69, 78, 68, 32, 65, 46] from rfl, show (⟨#[77, 79, 68, 85, 76, 69, 32, 65, 59, 32, 66, 69, 71, 73, 78, 32]⟩ : ByteArray) = bs [77, 79, 68, 85, 76, 69, 32, 65, 59, 32, 66, 69, 71, 73, 78, 32] from rfl]
    simp only [bs_app, List.append_assoc]
    simp [deepT, fstT, opn, midT, cls, lstT]
  generalize bs (deepT 5 m) = T at *
  clear V hans hF hz
  by_cases h24 : m ≤ 24
  · rw [if_pos h24] at hee
    subst hee
    have d24 : decide ((m : Int) ≤ 24) = true := decide_eq_true (by omega)
    have d0 : decide ((m : Int) < 0) = false := decide_eq_false (by omega)
    have d2 : decide ((200 : Int) < (m : Int)) = false := decide_eq_false (by omega)
    go_enter Tryd.func4, Tryd.ntmps4
    go_wp2_with (first
      | (go_at_call 8; refine (EX.out _ (by go_grown)).mono ?_; rintro e' w2 ⟨c2, rfl, hb2⟩; have hs2 := hb2.size)
      | (go_at_call 10; refine (RP.out _ _ (by decide)).mono ?_; rintro e' W' ⟨rfl, hw⟩; rw [hw]; clear hw)
      | (go_at_call 5; refine SH.mono ?_; rintro e' w0 ⟨rfl, hb0⟩; have hs0 := hb0.size))
    go_ret
    exact ⟨rfl, hb2⟩
  · rw [if_neg h24] at hee
    subst hee
    have d24 : decide ((m : Int) ≤ 24) = false := decide_eq_false (by omega)
    have d0 : decide ((m : Int) < 0) = false := decide_eq_false (by omega)
    have d2 : decide ((200 : Int) < (m : Int)) = false := decide_eq_false (by omega)
    go_enter Tryd.func4, Tryd.ntmps4
    go_wp2_with (first
      | (go_at_call 8; refine (EX.out _ (by go_grown)).mono ?_; rintro e' w2 ⟨c2, rfl, hb2⟩; have hs2 := hb2.size)
      | (go_at_call 10; refine (RP.out _ _ (by decide)).mono ?_; rintro e' W' ⟨rfl, hw⟩; rw [hw]; clear hw)
      | (go_at_call 5; refine SH.mono ?_; rintro e' w0 ⟨rfl, hb0⟩; have hs0 := hb0.size))
    go_ret
    exact ⟨rfl, hb2⟩
set_option maxHeartbeats 8000000 in
set_option maxRecDepth 20000 in
theorem deep_go6 (m : Nat) (hm : m ≤ 200) (w : World) (V : Vars w) : Calls Tryd.prog 4 #[.int .i64 (m : Int), .int .i64 6] w fun e w' => e = .returned (.bool true) ∧ Below w.heap.size w w' := by
  have SH := shownT w V
  obtain ⟨F, hF⟩ : ∃ F : Array UInt8 → ByteArray, ∀ a, F a = bs (rep a.toList m) := ⟨_, fun _ => rfl⟩
  have RP : Hid (∀ (a : Array UInt8) X, a.size ≤ 11 → Calls Tryd.prog 10 #[.string ⟨a⟩, .int .i64 (m : Int)] X fun e w' => e = .returned (.string (F a)) ∧ w' = X) := fun a X ha => by
    have := repeated_any a.toList m hm (by simpa using ha) X
    rw [← hF] at this
    cases a; exact this
  obtain ⟨nn, pp, ee, hans⟩ : ∃ a b c, ansM (deepT 6 m) = (a, b, c) := ⟨_, _, _, rfl⟩
  have hee := deepM 6 m (by omega) (by omega) hm
  rw [hans] at hee
  simp only at hee
  have EX : Hid (∀ X, Below w.heap.size w X → Calls Tryd.prog 8 #[.string (bs (deepT 6 m))] X fun e w' => ∃ c, e = .returned (.tuple #[.agg (Nc.cells c), .int .i64 (pp : Int), .int .i64 ee]) ∧ Below w.heap.size w w') := fun X hX => by
    have := modules_any (deepT 6 m) X (V.below hX V.big2)
    rw [hans] at this
    exact this.mono fun e w' ⟨c, he, _, hb⟩ => ⟨c, he, hX.trans (hb.mono hX.size)⟩
  have hz : ∀ a : Array UInt8, a.size ≤ 11 → (F a).size ≤ 2200 := fun a ha => by
    rw [hF, bs_size, rep_len]
    exact Nat.mul_le_mul hm (by simpa using ha)
  have z1 := hz #[65, 82, 82, 65, 89, 32, 49, 32, 79, 70, 32] (by decide)
  have z2 := hz #[] (by decide)
  have ct : (((⟨#[77, 79, 68, 85, 76, 69, 32, 65, 59, 32, 86, 65, 82, 32, 120, 58, 32]⟩ ++ F #[65, 82, 82, 65, 89, 32, 49, 32, 79, 70, 32]) ++ ⟨#[84]⟩) ++ F #[]) ++ ⟨#[59, 32, 69, 78, 68, 32, 65, 46]⟩ = bs (deepT 6 m) := by
    rw [hF, hF]
    simp only [show (⟨#[59, 32, 69, 78, 68, 32, 65, 46]⟩ : ByteArray) = bs [59, 32, 69, 78, 68, 32, 65, 46] from rfl, show (⟨#[77, 79, 68, 85, 76, 69, 32, 65, 59, 32, 86, 65, 82, 32, 120, 58, 32]⟩ : ByteArray) = bs [77, 79, 68, 85, 76, 69, 32, 65, 59, 32, 86, 65, 82, 32, 120, 58, 32] from rfl, show (⟨#[84]⟩ : ByteArray) = bs [84] from rfl]
    simp only [bs_app, List.append_assoc]
    simp [deepT, fstT, opn, midT, cls, lstT]
  generalize bs (deepT 6 m) = T at *
  clear V hans hF hz
  by_cases h24 : m ≤ 24
  · rw [if_pos h24] at hee
    subst hee
    have d24 : decide ((m : Int) ≤ 24) = true := decide_eq_true (by omega)
    have d0 : decide ((m : Int) < 0) = false := decide_eq_false (by omega)
    have d2 : decide ((200 : Int) < (m : Int)) = false := decide_eq_false (by omega)
    go_enter Tryd.func4, Tryd.ntmps4
    go_wp2_with (first
      | (go_at_call 8; refine (EX.out _ (by go_grown)).mono ?_; rintro e' w2 ⟨c2, rfl, hb2⟩; have hs2 := hb2.size)
      | (go_at_call 10; refine (RP.out _ _ (by decide)).mono ?_; rintro e' W' ⟨rfl, hw⟩; rw [hw]; clear hw)
      | (go_at_call 5; refine SH.mono ?_; rintro e' w0 ⟨rfl, hb0⟩; have hs0 := hb0.size))
    go_ret
    exact ⟨rfl, hb2⟩
  · rw [if_neg h24] at hee
    subst hee
    have d24 : decide ((m : Int) ≤ 24) = false := decide_eq_false (by omega)
    have d0 : decide ((m : Int) < 0) = false := decide_eq_false (by omega)
    have d2 : decide ((200 : Int) < (m : Int)) = false := decide_eq_false (by omega)
    go_enter Tryd.func4, Tryd.ntmps4
    go_wp2_with (first
      | (go_at_call 8; refine (EX.out _ (by go_grown)).mono ?_; rintro e' w2 ⟨c2, rfl, hb2⟩; have hs2 := hb2.size)
      | (go_at_call 10; refine (RP.out _ _ (by decide)).mono ?_; rintro e' W' ⟨rfl, hw⟩; rw [hw]; clear hw)
      | (go_at_call 5; refine SH.mono ?_; rintro e' w0 ⟨rfl, hb0⟩; have hs0 := hb0.size))
    go_ret
    exact ⟨rfl, hb2⟩
set_option maxHeartbeats 8000000 in
set_option maxRecDepth 20000 in
theorem deep_go7 (m : Nat) (hm : m ≤ 200) (w : World) (V : Vars w) : Calls Tryd.prog 4 #[.int .i64 (m : Int), .int .i64 7] w fun e w' => e = .returned (.bool true) ∧ Below w.heap.size w w' := by
  have SH := shownT w V
  obtain ⟨F, hF⟩ : ∃ F : Array UInt8 → ByteArray, ∀ a, F a = bs (rep a.toList m) := ⟨_, fun _ => rfl⟩
  have RP : Hid (∀ (a : Array UInt8) X, a.size ≤ 11 → Calls Tryd.prog 10 #[.string ⟨a⟩, .int .i64 (m : Int)] X fun e w' => e = .returned (.string (F a)) ∧ w' = X) := fun a X ha => by
    have := repeated_any a.toList m hm (by simpa using ha) X
    rw [← hF] at this
    cases a; exact this
  obtain ⟨nn, pp, ee, hans⟩ : ∃ a b c, ansM (deepT 7 m) = (a, b, c) := ⟨_, _, _, rfl⟩
  have hee := deepM 7 m (by omega) (by omega) hm
  rw [hans] at hee
  simp only at hee
  have EX : Hid (∀ X, Below w.heap.size w X → Calls Tryd.prog 8 #[.string (bs (deepT 7 m))] X fun e w' => ∃ c, e = .returned (.tuple #[.agg (Nc.cells c), .int .i64 (pp : Int), .int .i64 ee]) ∧ Below w.heap.size w w') := fun X hX => by
    have := modules_any (deepT 7 m) X (V.below hX V.big2)
    rw [hans] at this
    exact this.mono fun e w' ⟨c, he, _, hb⟩ => ⟨c, he, hX.trans (hb.mono hX.size)⟩
  have hz : ∀ a : Array UInt8, a.size ≤ 11 → (F a).size ≤ 2200 := fun a ha => by
    rw [hF, bs_size, rep_len]
    exact Nat.mul_le_mul hm (by simpa using ha)
  have z1 := hz #[82, 69, 67, 79, 82, 68, 32, 97, 58, 32] (by decide)
  have z2 := hz #[32, 69, 78, 68] (by decide)
  have ct : (((⟨#[77, 79, 68, 85, 76, 69, 32, 65, 59, 32, 86, 65, 82, 32, 120, 58, 32]⟩ ++ F #[82, 69, 67, 79, 82, 68, 32, 97, 58, 32]) ++ ⟨#[84]⟩) ++ F #[32, 69, 78, 68]) ++ ⟨#[59, 32, 69, 78, 68, 32, 65, 46]⟩ = bs (deepT 7 m) := by
    rw [hF, hF]
    simp only [show (⟨#[59, 32, 69, 78, 68, 32, 65, 46]⟩ : ByteArray) = bs [59, 32, 69, 78, 68, 32, 65, 46] from rfl, show (⟨#[77, 79, 68, 85, 76, 69, 32, 65, 59, 32, 86, 65, 82, 32, 120, 58, 32]⟩ : ByteArray) = bs [77, 79, 68, 85, 76, 69, 32, 65, 59, 32, 86, 65, 82, 32, 120, 58, 32] from rfl, show (⟨#[84]⟩ : ByteArray) = bs [84] from rfl]
    simp only [bs_app, List.append_assoc]
    simp [deepT, fstT, opn, midT, cls, lstT]
  generalize bs (deepT 7 m) = T at *
  clear V hans hF hz
  by_cases h24 : m ≤ 24
  · rw [if_pos h24] at hee
    subst hee
    have d24 : decide ((m : Int) ≤ 24) = true := decide_eq_true (by omega)
    have d0 : decide ((m : Int) < 0) = false := decide_eq_false (by omega)
    have d2 : decide ((200 : Int) < (m : Int)) = false := decide_eq_false (by omega)
    go_enter Tryd.func4, Tryd.ntmps4
    go_wp2_with (first
      | (go_at_call 8; refine (EX.out _ (by go_grown)).mono ?_; rintro e' w2 ⟨c2, rfl, hb2⟩; have hs2 := hb2.size)
      | (go_at_call 10; refine (RP.out _ _ (by decide)).mono ?_; rintro e' W' ⟨rfl, hw⟩; rw [hw]; clear hw)
      | (go_at_call 5; refine SH.mono ?_; rintro e' w0 ⟨rfl, hb0⟩; have hs0 := hb0.size))
    go_ret
    exact ⟨rfl, hb2⟩
  · rw [if_neg h24] at hee
    subst hee
    have d24 : decide ((m : Int) ≤ 24) = false := decide_eq_false (by omega)
    have d0 : decide ((m : Int) < 0) = false := decide_eq_false (by omega)
    have d2 : decide ((200 : Int) < (m : Int)) = false := decide_eq_false (by omega)
    go_enter Tryd.func4, Tryd.ntmps4
    go_wp2_with (first
      | (go_at_call 8; refine (EX.out _ (by go_grown)).mono ?_; rintro e' w2 ⟨c2, rfl, hb2⟩; have hs2 := hb2.size)
      | (go_at_call 10; refine (RP.out _ _ (by decide)).mono ?_; rintro e' W' ⟨rfl, hw⟩; rw [hw]; clear hw)
      | (go_at_call 5; refine SH.mono ?_; rintro e' w0 ⟨rfl, hb0⟩; have hs0 := hb0.size))
    go_ret
    exact ⟨rfl, hb2⟩
set_option maxHeartbeats 8000000 in
set_option maxRecDepth 20000 in
theorem deep_out (m : Nat) (hm : m ≤ 200) (kd : Int) (hk : kd < 0 ∨ 7 < kd) (w : World) (V : Vars w) : Calls Tryd.prog 4 #[.int .i64 (m : Int), .int .i64 kd] w fun e w' => e = .returned (.bool true) ∧ Below w.heap.size w w' := by
  have SH := shownT w V
  obtain ⟨F, hF⟩ : ∃ F : Array UInt8 → ByteArray, ∀ a, F a = bs (rep a.toList m) := ⟨_, fun _ => rfl⟩
  have RP : Hid (∀ (a : Array UInt8) X, a.size ≤ 11 → Calls Tryd.prog 10 #[.string ⟨a⟩, .int .i64 (m : Int)] X fun e w' => e = .returned (.string (F a)) ∧ w' = X) := fun a X ha => by
    have := repeated_any a.toList m hm (by simpa using ha) X
    rw [← hF] at this
    cases a; exact this
  obtain ⟨nn, pp, ee, hans⟩ : ∃ a b c, ansP .expr (deepT 0 m) = (a, b, c) := ⟨_, _, _, rfl⟩
  have hee := deepE 0 m (by omega) hm
  rw [hans] at hee
  simp only at hee
  have EX : Hid (∀ X, Below w.heap.size w X → Calls Tryd.prog 11 #[.string (bs (deepT 0 m))] X fun e w' => ∃ c, e = .returned (.tuple #[.agg (Nc.cells c), .int .i64 (pp : Int), .int .i64 ee]) ∧ Below w.heap.size w w') := fun X hX => by
    have := expr_any (deepT 0 m) X (V.below hX V.big2)
    rw [hans] at this
    exact this.mono fun e w' ⟨c, he, _, hb⟩ => ⟨c, he, hX.trans (hb.mono hX.size)⟩
  have hz : ∀ a : Array UInt8, a.size ≤ 11 → (F a).size ≤ 2200 := fun a ha => by
    rw [hF, bs_size, rep_len]
    exact Nat.mul_le_mul hm (by simpa using ha)
  have z1 := hz #[40] (by decide)
  have z2 := hz #[41] (by decide)
  have ct : (F #[40] ++ ⟨#[49]⟩) ++ F #[41] = bs (deepT 0 m) := by
    rw [hF, hF]
    simp only [show (⟨#[49]⟩ : ByteArray) = bs [49] from rfl]
    simp only [bs_app, List.append_assoc]
    simp [deepT, fstT, opn, midT, cls, lstT]
  generalize bs (deepT 0 m) = T at *
  clear V hans hF hz
  by_cases h24 : m ≤ 24
  · rw [if_pos h24] at hee
    subst hee
    have d24 : decide ((m : Int) ≤ 24) = true := decide_eq_true (by omega)
    have d0 : decide ((m : Int) < 0) = false := decide_eq_false (by omega)
    have d2 : decide ((200 : Int) < (m : Int)) = false := decide_eq_false (by omega)
    have HK : Hid (kd < 0 ∨ 7 < kd) := hk
    clear hk
    rcases HK.out with hk | hk
    all_goals first | (have k0 : decide (kd < 0) = true := decide_eq_true hk) | (have k0 : decide (kd < 0) = false := decide_eq_false (by omega); have k1 : decide (7 < kd) = true := decide_eq_true hk)
    all_goals
    go_enter Tryd.func4, Tryd.ntmps4
    go_wp2_with (first
      | (go_at_call 11; refine (EX.out _ (by go_grown)).mono ?_; rintro e' w2 ⟨c2, rfl, hb2⟩; have hs2 := hb2.size)
      | (go_at_call 10; refine (RP.out _ _ (by decide)).mono ?_; rintro e' W' ⟨rfl, hw⟩; rw [hw]; clear hw)
      | (go_at_call 5; refine SH.mono ?_; rintro e' w0 ⟨rfl, hb0⟩; have hs0 := hb0.size))
    go_ret
    exact ⟨rfl, hb2⟩
  · rw [if_neg h24] at hee
    subst hee
    have d24 : decide ((m : Int) ≤ 24) = false := decide_eq_false (by omega)
    have d0 : decide ((m : Int) < 0) = false := decide_eq_false (by omega)
    have d2 : decide ((200 : Int) < (m : Int)) = false := decide_eq_false (by omega)
    have HK : Hid (kd < 0 ∨ 7 < kd) := hk
    clear hk
    rcases HK.out with hk | hk
    all_goals first | (have k0 : decide (kd < 0) = true := decide_eq_true hk) | (have k0 : decide (kd < 0) = false := decide_eq_false (by omega); have k1 : decide (7 < kd) = true := decide_eq_true hk)
    all_goals
    go_enter Tryd.func4, Tryd.ntmps4
    go_wp2_with (first
      | (go_at_call 11; refine (EX.out _ (by go_grown)).mono ?_; rintro e' w2 ⟨c2, rfl, hb2⟩; have hs2 := hb2.size)
      | (go_at_call 10; refine (RP.out _ _ (by decide)).mono ?_; rintro e' W' ⟨rfl, hw⟩; rw [hw]; clear hw)
      | (go_at_call 5; refine SH.mono ?_; rintro e' w0 ⟨rfl, hb0⟩; have hs0 := hb0.size))
    go_ret
    exact ⟨rfl, hb2⟩
set_option maxHeartbeats 4000000 in
set_option maxRecDepth 20000 in
theorem deep_far (n kd : Int) (hn : n < 0 ∨ 200 < n) (w : World) (V : Vars w) : Calls Tryd.prog 4 #[.int .i64 n, .int .i64 kd] w fun e w' => e = .returned (.bool true) ∧ Below w.heap.size w w' := by
  have SH := shownT w V
  clear V
  rcases hn with hn | hn
  · have d0 : decide (n < 0) = true := decide_eq_true hn
    go_enter Tryd.func4, Tryd.ntmps4
    go_wp2_with (go_at_call 5; refine SH.mono ?_; rintro e' w0 ⟨rfl, hb0⟩; have hs0 := hb0.size)
    go_ret
    exact ⟨rfl, hb0⟩
  · have d0 : decide (n < 0) = false := decide_eq_false (by omega)
    have d2 : decide ((200 : Int) < n) = true := decide_eq_true hn
    go_enter Tryd.func4, Tryd.ntmps4
    go_wp2_with (go_at_call 5; refine SH.mono ?_; rintro e' w0 ⟨rfl, hb0⟩; have hs0 := hb0.size)
    go_ret
    exact ⟨rfl, hb0⟩
theorem treeDeep_any (n kd : Int) (w : World) (V : Vars w) : Calls Tryd.prog 4 #[.int .i64 n, .int .i64 kd] w fun e w' => e = .returned (.bool true) ∧ Below w.heap.size w w' := by
  by_cases hn : n < 0 ∨ 200 < n
  · exact deep_far n kd hn w V
  · obtain ⟨m, rfl⟩ : ∃ m : Nat, n = (m : Int) := ⟨n.toNat, by omega⟩
    have hm : m ≤ 200 := by omega
    by_cases hk : kd < 0 ∨ 7 < kd
    · exact deep_out m hm kd hk w V
    · have : kd = 0 ∨ kd = 1 ∨ kd = 2 ∨ kd = 3 ∨ kd = 4 ∨ kd = 5 ∨ kd = 6 ∨ kd = 7 := by omega
      rcases this with rfl | rfl | rfl | rfl | rfl | rfl | rfl | rfl
      · exact deep_go0 m hm w V
      · exact deep_go1 m hm w V
      · exact deep_go2 m hm w V
      · exact deep_go3 m hm w V
      · exact deep_go4 m hm w V
      · exact deep_go5 m hm w V
      · exact deep_go6 m hm w V
      · exact deep_go7 m hm w V
end Go.Proofs.YtllhcjmabhempaaDoor

namespace Go.Proofs.YtllhcjmabhempaaDoor
set_option linter.unusedVariables false
set_option linter.unusedSimpArgs false
open Go.ChangeShapes Go.WideShapes Go.ChangeAt Go.RowKit

theorem at_of {l : List Value} {k : Nat} {v : Value} (h : (l.drop k).take 1 = [v]) : l[k]? = some v := by
  have : ((l.drop k).take 1)[0]? = some v := by rw [h]; rfl
  simpa using this
theorem some_of {α : Type} {xs : List α} {n i : Nat} (h : xs.length = n) (hi : i < n) : ∃ y, xs[i]? = some y := ⟨xs[i]'(by omega), List.getElem?_eq_getElem (by omega)⟩
theorem Tryd.cells9 : Tryd.prog.cellsOf 9 = 1 := by kernel_rfl
/-- One listed variable: its block, its cells, what they read as. -/
def OneIs (W : World) (n : String) (d : DataW Unit) : Prop := ∃ g t cs fuel p, Tryd.prog.globalNamed n = some g ∧ (Tryd.prog.globals[g]?).map (·.type) = some t ∧ W.var? Tryd.prog n = some cs ∧ DataW.trod (fun _ => ()) Tryd.prog W 0 (fun _ => true) false fuel t cs.toList = some (d, p)
theorem laid_each {W : World} : ∀ {l : List (String × DataW Unit)} {ps : List MemPlace}, DataW.LaidVars Tryd.prog W l ps → ∀ x ∈ l, OneIs W x.1 x.2
  | [], _, _, x, hx => by cases hx
  | (n, d) :: r, ps, ⟨g, t, cs, fuel, p, q, h1, h2, h3, h4, h5, _⟩, x, hx => by
    rcases List.mem_cons.1 hx with rfl | hx
    · exact ⟨g, t, cs, fuel, p, h1, h2, h3, h4⟩
    · exact laid_each h5 x hx
theorem strs_of {W : World} {n : String} {ls : List Bs} {g t m : Nat} (h : OneIs W n (.agg (ls.map fun s => .lit (.string s)))) (hg : Tryd.prog.globalNamed n = some g) (ht : (Tryd.prog.globals[g]?).map (·.type) = some t) (hu : Tryd.prog.underlying t = some (.array m 9)) (hm : ls.length = m) :
    ∀ o (ho : o < ls.length), W.cell? ⟨g, o, none⟩ = some (.string (bs ls[o])) := by
  obtain ⟨g', t', cs, fuel, p, h1, h2, h3, h4⟩ := h
  obtain rfl := Option.some.inj (hg.symm.trans h1)
  obtain rfl := Option.some.inj (ht.symm.trans h2)
  obtain ⟨xs, k, _, ex, _, hl, hel⟩ := DataW.trod_array hu h4
  have e1 : ls.map (fun s => (.lit (.string s) : DataW Unit)) = xs.map (·.1) := by have := (Prod.mk.inj ex).1; simpa using this
  intro o ho
  obtain ⟨y, hy⟩ := some_of hl (hm ▸ ho)
  have hE := hel o (hm ▸ ho)
  rw [hy, Tryd.cells9] at hE
  obtain ⟨s, e2, e3, _⟩ := DataW.trod_string Tryd.underlying9 hE
  have h5 := at_of e2
  rw [World.var?_cell hg h3 o]
  have h6 : cs[o]? = some (.string s) := by simpa using h5
  rw [h6]
  have h7 : (ls.map (fun s => (.lit (.string s) : DataW Unit)))[o]? = (xs.map (·.1))[o]? := by rw [e1]
  rw [List.getElem?_map, List.getElem?_map, hy, List.getElem?_eq_getElem ho] at h7
  simp only [Option.map_some, Option.some.injEq, e3, DataW.lit.injEq, Lit.string.injEq] at h7
  rw [h7, bs_of]
theorem keys_eq : (Rows.laid_carrel_scan_keywords : DataW Unit) = .agg (keysL.map fun s => .lit (.string s)) := rfl
theorem signs_eq : (Rows.laid_carrel_scan_signs : DataW Unit) = .agg (signsL.map fun s => .lit (.string s)) := rfl
theorem keys_of {W : World} (h : OneIs W "carrel/scan.keywords" Rows.laid_carrel_scan_keywords) : KVars W := by
  rw [keys_eq] at h
  have hk := strs_of (g := 1) h (by kernel_rfl) (by kernel_rfl) Tryd.underlying73 rfl
  exact ⟨World.block_lt_of_cell? W _ (hk 0 (by decide)), hk⟩
theorem vars_of {W : World} (h : OneIs W "carrel/scan.keywords" Rows.laid_carrel_scan_keywords) (hs : OneIs W "carrel/scan.signs" Rows.laid_carrel_scan_signs) : Vars W := by
  rw [signs_eq] at hs
  have hk := strs_of (g := 0) hs (by kernel_rfl) (by kernel_rfl) Tryd.underlying67 rfl
  have h1 := (keys_of h).1
  have h2 := World.block_lt_of_cell? W _ (hk 0 (by decide))
  exact ⟨keys_of h, (by simp at h1 h2 ⊢; omega), hk⟩
/-- The tables that a law lists. -/
def laid2 : List (String × DataW Unit) := Rows.treeDeepRow.laid
theorem vars_laid {W : World} (h : laidMetH Tryd.prog laid2 W) : Vars W := by
  rw [MakeChecks.laidMetH_plain _ _ _ (by kernel_rfl)] at h
  obtain ⟨ps, hl, _⟩ := h
  exact vars_of (laid_each hl ("carrel/scan.keywords", Rows.laid_carrel_scan_keywords) (by simp [laid2, Rows.treeDeepRow])) (laid_each hl ("carrel/scan.signs", Rows.laid_carrel_scan_signs) (by simp [laid2, Rows.treeDeepRow]))
/-- A contract at the worlds that a row speaks of, by its listed variables and by the shape of all others. -/
theorem returns_laid {C : Checked} {H : Type} {enc : TypeId × Value → H} {os : Os} {f : FuncId} {fn : Func} {s : ChangeSpec} {X : World → Array Value → Prop} (hX : ∀ (w w' : World) (args : Array Value), w.heap = w'.heap → X w args → X w' args)
    (own : ownKnob C.prog.godebug = none) (started : os.Started) (noInit : C.prog.inits.idxOf? f = none) (hfn : C.prog.funcs[f]? = some fn)
    (witness : ∃ (w : World) (tape : Tape) (i : Input), w.os = os ∧ (w.forCall tape i).Shaped C.prog ∧ i.vars = [] ∧ Input.okWide C.prog (w.forCall tape i) .any w.heap.size f i ∧
      ((s.pre enc C.prog fn [] false (w.forCall tape i).memory i.args ∧ X (w.forCall tape i).memory i.args) ∧ sizedMet enc C.prog fn (OpenSpec.ofChange s) false (w.forCall tape i).memory i.args) ∧ ({} : Assume).holds C.prog (lone (Frame.enter C.prog f i.args .normal) [] (w.forCall tape i)))
    (K : ∀ (W : World) (base : Nat) (args : Array Value) (ds gs : List (DataW H)) (before : List MemPlace), W.ShapedOpen C.prog → X W args →
      (∀ (j : Nat) t v, fn.params[j]? = some t → args[j]? = some v → Value.okWide C.prog W .any base t v) → DataW.Whole enc C.prog fn.params.toList s.vars false W args.toList ds gs before →
      Calls C.prog f args W fun e W' => ∃ v, e = .returned v ∧ s.post enc C.prog fn false true false false W args v W') :
    ReturnsInHanded {} C os f .any (fun w args => (s.pre enc C.prog fn [] false w args ∧ X w args) ∧ sizedMet enc C.prog fn (OpenSpec.ofChange s) false w args) (s.post enc C.prog fn false true false false) := by
  refine returnsInHanded_of_calls own started noInit witness fun w tape i _ hS _ ok pre _ => ?_
  obtain ⟨_, _, _, fn', h', _, _, _, _, hv⟩ := ok
  obtain rfl : fn' = fn := Option.some.inj (h'.symm.trans hfn)
  obtain ⟨⟨⟨ds, gs, before, hw, _⟩, hx⟩, _⟩ := pre
  refine (K (w.forCall tape i) w.heap.size i.args ds gs before hS (hX _ _ _ (by rfl) hx) hv (DataW.Whole.of_heap (w' := w.forCall tape i) (by rfl) hw)).mono fun e W' ⟨v, he, hp⟩ => ?_
  subst he
  exact ChangeSpec.post_blind hp
theorem ownK : ownKnob Tryd.prog.godebug = none := by kernel_rfl
theorem laidOutB8 : laidOutB Tryd.prog = true := by kernel_rfl
end Go.Proofs.YtllhcjmabhempaaDoor

namespace Go.Proofs.YtllhcjmabhempaaDoor
open Go.ChangeShapes Go.WideShapes Go.ChangeAt Go.RowKit
set_option linter.unusedVariables false

namespace treeDeep
set_option maxRecDepth 100000 in
theorem lifted (os : Os) (started : os.Started) (H : Type) (enc : TypeId × Value → H) :
    ReturnsInHanded {} Tryd.checked os 4 .any (fun w args => (Rows.treeDeepSpec.pre enc Tryd.prog Tryd.f4 [] false w args ∧ laidMetH Tryd.prog laid2 w) ∧ sizedMet enc Tryd.prog Tryd.f4 (OpenSpec.ofChange Rows.treeDeepSpec) false w args)
      (Rows.treeDeepSpec.post enc Tryd.prog Tryd.f4 false true false false) := by
  refine returns_laid (C := Tryd.checked) (X := fun w _ => laidMetH Tryd.prog laid2 w) (fun _ _ _ hh h => h.of_heap hh) ownK started (by kernel_rfl) Tryd.func4
    (ChangeSpec.witness_shaped (enc := enc) (C := Tryd.checked) (os := os) (X := fun w _ => laidMetH Tryd.prog laid2 w) false (World.laidAll Tryd.prog os laid2) #[.int .i64 0, .int .i64 0] 8 (World.laidAll_os _ _ _)
      (World.shaped_of_ZipB (by kernel_rfl) (by kernel_rfl)) (by kernel_rfl) (by kernel_rfl) (by kernel_rfl)
      (by rw [MakeChecks.laidMetH_plain _ _ _ (by kernel_rfl)]; exact laidMet_laidAll _ (by kernel_rfl) (by kernel_rfl))) ?_
  intro W base args ds gs before hS hL hval0 hW
  have V := vars_laid hL
  clear hS hL
  have hval : ∀ (j : Nat) t v, Tryd.f4.params[j]? = some t → args[j]? = some v → Value.okWide Tryd.prog W .any base t v := hval0
  have hW' := hW
  obtain ⟨p, q, hA0, hV, rfl, hfz, hnd⟩ := hW
  have hA : DataW.TrodAll enc Tryd.prog W 0 (fun _ => true) true Tryd.f4.params.toList args.toList ds p := hA0
  rw [Tryd.params4] at hA hval
  obtain ⟨v0, vs0, d0, ds0, p0, q0, hargs, rfl, rfl, h0, r0⟩ := trodAll_cons hA
  obtain ⟨v1, vs1, d1, ds1, p1, q1, rfl, rfl, rfl, h1, r1⟩ := trodAll_cons r0
  obtain ⟨rfl, rfl, rfl⟩ := trodAll_nil r1
  obtain rfl : args = #[v0, v1] := by cases args; simp_all
  obtain ⟨rfl, rfl⟩ := trodVars_none hV
  obtain ⟨a0, rfl, rfl, rfl, w0⟩ := open_int Tryd.underlying3 (hval 0 3 v0 rfl rfl) h0
  obtain ⟨a1, rfl, rfl, rfl, w1⟩ := open_int Tryd.underlying3 (hval 1 3 v1 rfl rfl) h1
  clear hA0 hval0
  refine (treeDeep_any a0 a1 W V).mono fun e W' ⟨he, bel⟩ => ?_
  subst he
  exact ⟨_, rfl, _, _, _, [], _, [], hW', trodAll_mk1 (shut_bool Tryd.underlying4 _), (trodAll_cons_mk (shut_int Tryd.underlying3 w0) (trodAll_cons_mk (shut_int Tryd.underlying3 w1) trodAll_mk0)), rfl, bel.frame _, fun h => by cases h⟩

theorem over : Rows.TreeDeepSaid :=
  OpenClaim.holds_of_wide 4 Tryd.f4 rfl rfl rfl rfl rfl rfl rfl ⟨rfl, rfl, rfl, rfl, rfl⟩ rfl rfl rfl rfl rfl (by kernel_rfl) Tryd.func4 (by kernel_rfl)
    (of_decide_eq_true (by kernel_rfl)) (by unfold Func.isWrapper; first | (rw [if_pos (by decide +kernel)]; kernel_rfl) | (rw [if_neg (by decide +kernel)]; exact ⟨rfl, rfl⟩))
    (fun os started H enc _ => lifted os started H enc)
end treeDeep
/-- The given card. -/
theorem treeDeep_holds : Rows.TreeDeepCardSaid :=
  Claim7.holds_tied_plain_at .later [] _ _ _ _ treeDeep.over (fun _ h => by cases h) (by kernel_rfl) (fun _ h => by cases h) treeDeep_row_tie rfl ⟨rfl, rfl⟩ (by kernel_rfl) rfl
    (fun f fn hf hfn => by
      obtain rfl : f = 4 := Option.some.inj ((show Tryd.prog.funcNamed "carrel/carrellaw09.TreeDeep" = some 4 by kernel_rfl).symm.trans hf) |>.symm
      obtain rfl : fn = Tryd.f4 := (Option.some.inj (Tryd.func4.symm.trans hfn)).symm
      exact ⟨by kernel_rfl, fun j t ht => by
        rw [Tryd.params4] at ht
        have hm : t ∈ [3, 3] := by simpa using Array.mem_of_getElem? ht
        have hall : ([3, 3].all fun u => !Tryd.prog.wantsStandIn u) = true := by kernel_rfl
        exact (show Tryd.prog.wantsStandIn t = false by simpa using List.all_eq_true.1 hall t hm)⟩)
    (by kernel_rfl)
#print axioms treeDeep_holds
end Go.Proofs.YtllhcjmabhempaaDoor
