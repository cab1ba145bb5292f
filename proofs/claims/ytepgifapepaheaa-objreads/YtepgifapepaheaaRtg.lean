/-
  Layer 7: whether a descriptor's tags are right.
-/
import Derived.Test.YtepgifapepaheaaRds
namespace Go.Proofs.Ytepgifapepaheaa
set_option linter.unusedVariables false
set_option linter.unusedSimpArgs false
open Go.ChangeShapes Go.WideShapes Go.ChangeAt Go.RowKit

def tagsB (ts : List Int) (x : Int × Int × List Int) : Bool := decide (0 < (x.2.2.length : Int)) && eachB x.2.2.length 4 (fun i => foundB ts (x.2.2.getD i 0)) && (x.2.2.getD (x.2.2.length - 1) 0 == x.1)
/-- What stands while tags are looked at. -/
structure TI (w X : World) (s : Sl) (l : List ((Int × Int × List Int) × Sl)) (p : (Int × Int × List Int) × Sl) : Prop where
  rd : RdV X 3 s l.length (flat dEnc l)
  tg : RdV X 1 p.2 p.1.2.2.length (p.1.2.2.map (Value.int .i64))
  b1 : X.heap[w.heap.size]? = some (.cells #[.slice s.a s.n s.c] 30 (0, 0))
  b2 : X.heap[w.heap.size + 1]? = some (.cells #[.int .i64 p.1.1, .int .i64 p.1.2.1, .slice p.2.a p.2.n p.2.c] 54 (0, 0))
  be : Below w.heap.size w X
theorem TI.below {w X Y : World} {s : Sl} {l : List ((Int × Int × List Int) × Sl)} {p : (Int × Int × List Int) × Sl} (h : TI w X s l p) (hb : Below X.heap.size X Y) : TI w Y s l p := by
  have l1 := (Array.getElem?_eq_some_iff.1 h.b1).1
  exact ⟨h.rd.below hb, h.tg.below hb, (hb.block _ l1).trans h.b1, (hb.block _ (Array.getElem?_eq_some_iff.1 h.b2).1).trans h.b2, h.be.trans (hb.mono (Nat.le_of_lt l1))⟩
theorem each_tags (w X : World) (s : Sl) (l : List ((Int × Int × List Int) × Sl)) (p : (Int × Int × List Int) × Sl) (h : TI w X s l p) : Calls Try.prog 59 #[.slice p.2.a p.2.n p.2.c, .int .i64 4, .func (.func 78) #[] #[.pointer (some ⟨w.heap.size, 0, none⟩)]] X fun e w' => e = .returned (.bool (eachB p.1.2.2.length 4 (fun i => foundB (l.map (·.1.1)) (p.1.2.2.getD i 0)))) ∧ TI w w' s l p := by
  have := each_tag (fun _ X => TI w X s l p) (fun X => TI w X s l p) (fun i => foundB (l.map (·.1.1)) (p.1.2.2.getD i 0)) (fun i => p.1.2.2.getD i 0) p.2.a p.1.2.2.length p.2.c 4 w.heap.size X h (fun _ A B hA hb => hA.below hb) (fun _ A hA => hA.tg.ones _ (fun j hj => getD_at _ _ j hj)) (fun _ A hA => hA) h.tg.most
    (fun _ i hi A hA => (cl_tag A w.heap.size s l hA.rd (blk_cell hA.b1 0) i _).mono fun e Y hh => ⟨hh.1, fun _ => hA.below hh.2, fun _ => hA.below hh.2⟩)
  rw [h.tg.len]; exact this
end Go.Proofs.Ytepgifapepaheaa
