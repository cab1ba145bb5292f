/-
  Layer 7: rows that the reader reads, of things of one cell.
-/
import Derived.Test.YtcppgpcgbggdcaaDoorYrd
namespace Go.Proofs.YtcppgpcgbggdcaaDoor
set_option linter.unusedVariables false
set_option linter.unusedSimpArgs false
open Go.ChangeShapes Go.WideShapes Go.ChangeAt Go.RowKit

/-- So many things more, behind those that were read; none, where one is none. -/
def loopS {α : Type} (rd : St → α × St) : Nat → List α → St → List α × St
  | 0, acc, s => (acc, s)
  | n + 1, acc, s => if (rd s).2.st then ([], (rd s).2) else loopS rd n (acc ++ [(rd s).1]) (rd s).2
/-- A row: how many, and each. -/
def rowS {α : Type} (f : Nat → Int) (len : Nat) (most : Int) (rd : St → α × St) (s : St) : List α × St := loopS rd (numS f len most s).1.toNat [] (numS f len most s).2
theorem numS_bd (f : Nat → Int) (len : Nat) (most : Int) (s : St) (m0 : 0 ≤ most) : 0 ≤ (numS f len most s).1 ∧ (numS f len most s).1 ≤ most := by
  unfold numS
  cases h : uintR f len s.p with
  | none => simp; exact m0
  | some r =>
    obtain ⟨n, i⟩ := r
    have := uintR_bd h
    simp only
    split
    · rename_i hc
      simp only [Bool.and_eq_true, decide_eq_true_eq] at hc
      exact ⟨this.1, hc.2⟩
    · exact ⟨Int.le_refl _, m0⟩
theorem gb_own {w X Y : World} {b : Nat} {o : Option Nat} (h : w.grownBy X (some b)) (hg : X.grownBy Y o) (ho : ∀ g, o = some g → w.heap.size ≤ g) : w.grownBy Y (some b) :=
  ⟨hg.os.trans h.os, hg.tape.trans h.tape, hg.output.trans h.output, Nat.le_trans h.size hg.size, fun k hk hne => (hg.block k (Nat.lt_of_lt_of_le hk h.size) (fun e => by have := ho k e.symm; omega)).trans (h.block k hk hne)⟩
theorem own_gb {X Y : World} {B b : Nat} {e : TypeId} {k : Nat} {v : Value} {n : Nat} {xs : List Value} (h : X.ownsRow B e k v n xs) (hb : b < B) (hg : X.grownBy Y (some b)) : Y.ownsRow B e k v n xs := by
  refine ⟨h.1, ?_⟩
  rcases h.2 with hn | ⟨g, cap, cur, hv, hb1, hg1, rest⟩
  · exact .inl hn
  · exact .inr ⟨g, cap, cur, hv, hb1, (hg.block g (Array.getElem?_eq_some_iff.1 hg1).1 (fun e => by injection e with e; omega)).trans hg1, rest⟩
theorem own_lo {X : World} {B : Nat} {e : TypeId} {k : Nat} {v : Value} {n : Nat} {xs : List Value} (h : X.ownsRow B e k v n xs) (g : Nat) (hg : v.ownBlock = some g) : B ≤ g := (h.lt g hg).1
/-- The reader is left by what turns none of its blocks. -/
theorem Rdr.grow {w X Y : World} {b len cap : Nat} {a : Option Addr} {f : Nat → Int} {s : St} {o : Option Nat} (h : Rdr X b a len cap f s) (hlo : ∀ ad, a = some ad → ad.block < w.heap.size) (hb : b < w.heap.size) (hg : X.grownBy Y o) (ho : ∀ g, o = some g → w.heap.size ≤ g) : Rdr Y b a len cap f s :=
  h.same hg.size (hg.block _ h.bl (fun e => by have := ho _ e.symm; omega)) fun ad he => hg.block _ (h.ap ad he).2 (fun e => by have := ho _ e.symm; have := hlo ad he; omega)
theorem gb_alloc {w w' : World} {b : Nat} (h : w.grownBy w' (some b)) (x : Obj) : w.grownBy (w'.alloc x) (some b) := gb_trans h (gb_of_below ((Below.refl _ _).alloc (Nat.le_refl _) _) b)
/-- What a row leaves. -/
def PostW (w : World) (b : Nat) (a : Option Addr) (len cap : Nat) (f : Nat → Int) (E : TypeId) (k : Nat) (xs : List Value) (n : Nat) (s : St) (e : Ending) (w' : World) : Prop := ∃ v, e = .returned v ∧ w'.ownsRow w.heap.size E k v n xs ∧ Rdr w' b a len cap f s ∧ w.grownBy w' (some b)
theorem info_u32 : (Tryd.prog.info? 34).map (fun i => (i.zero, i.size, i.bytes)) = some (some (.int .u32 0), 1, 4) := by kernel_rfl
theorem info_int : (Tryd.prog.info? 3).map (fun i => (i.zero, i.size, i.bytes)) = some (some (.int .i64 0), 1, 8) := by kernel_rfl
theorem info_str : (Tryd.prog.info? 9).map (fun i => (i.zero, i.size, i.bytes)) = some (some (.string ⟨#[]⟩), 1, 16) := by kernel_rfl
end Go.Proofs.YtcppgpcgbggdcaaDoor
