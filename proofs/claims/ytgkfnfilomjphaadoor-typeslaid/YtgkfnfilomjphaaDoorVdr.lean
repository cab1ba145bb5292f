/-
  From what the program's text lays into the table of sizes to how it lies; the way from a contract to a row.
-/
import Derived.Test.YtgkfnfilomjphaaDoorVso
import Derived.Test.YtgkfnfilomjphaaDoorTie
import Derived.Test.YtgkfnfilomjphaaDoorCards
import Derived.SliceStrings
import Derived.MakeChecks
import Derived.Lay
import Derived.LaidMore
import Derived.SevenTiedAt
import Derived.JoinedOf
import Derived.ChangeSame
import Derived.Handed
import Derived.SizedLaws
import Derived.ChangeOld
import Derived.Below
import Derived.Shelf.Vars
namespace Go.Proofs.YtgkfnfilomjphaaDoor
set_option linter.unusedVariables false
set_option linter.unusedSimpArgs false
open Go.ChangeShapes Go.WideShapes Go.ChangeAt Go.RowKit

theorem at_of {l : List Value} {k : Nat} {v : Value} (h : (l.drop k).take 1 = [v]) : l[k]? = some v := by
  have : ((l.drop k).take 1)[0]? = some v := by rw [h]; rfl
  simpa using this
theorem some_of {α : Type} {xs : List α} {n i : Nat} (h : xs.length = n) (hi : i < n) : ∃ y, xs[i]? = some y := ⟨xs[i]'(by omega), List.getElem?_eq_getElem (by omega)⟩
theorem Tryd.cells3 : Tryd.prog.cellsOf 3 = 1 := by kernel_rfl
/-- One listed variable: its block, its cells, what they read as. -/
def OneIs (W : World) (n : String) (d : DataW Unit) : Prop := ∃ g t cs fuel p, Tryd.prog.globalNamed n = some g ∧ (Tryd.prog.globals[g]?).map (·.type) = some t ∧ W.var? Tryd.prog n = some cs ∧ DataW.trod (fun _ => ()) Tryd.prog W 0 (fun _ => true) false fuel t cs.toList = some (d, p)
theorem laid_each {W : World} : ∀ {l : List (String × DataW Unit)} {ps : List MemPlace}, DataW.LaidVars Tryd.prog W l ps → ∀ x ∈ l, OneIs W x.1 x.2
  | [], _, _, x, hx => by cases hx
  | (n, d) :: r, ps, ⟨g, t, cs, fuel, p, q, h1, h2, h3, h4, h5, _⟩, x, hx => by
    rcases List.mem_cons.1 hx with rfl | hx
    · exact ⟨g, t, cs, fuel, p, h1, h2, h3, h4⟩
    · exact laid_each h5 x hx
theorem sizes_eq : (Rows.laid_carrel_types_basicSizes : DataW Unit) = .agg (sizesL.map fun n => .lit (.int .i64 n)) := rfl
theorem sizes_at : ∀ i, i < 8 → (sizesL.map fun n => (.lit (.int .i64 n) : DataW Unit))[i]? = some (.lit (.int .i64 (sizesL.getD i 0)))
  | 0, _ => rfl
  | 1, _ => rfl
  | 2, _ => rfl
  | 3, _ => rfl
  | 4, _ => rfl
  | 5, _ => rfl
  | 6, _ => rfl
  | 7, _ => rfl
  | _ + 8, h => absurd h (by omega)
theorem vs_of {W : World} (h : OneIs W "carrel/types.basicSizes" Rows.laid_carrel_types_basicSizes) : Vs W := by
  rw [sizes_eq] at h
  obtain ⟨g', t', cs, fuel, p, h1, h2, h3, h4⟩ := h
  obtain rfl := Option.some.inj ((show Tryd.prog.globalNamed "carrel/types.basicSizes" = some 0 by kernel_rfl).symm.trans h1)
  obtain rfl := Option.some.inj ((show (Tryd.prog.globals[0]?).map (·.type) = some 74 by kernel_rfl).symm.trans h2)
  obtain ⟨xs, k, _, ex, _, hl, hel⟩ := DataW.trod_array Tryd.underlying74 h4
  have e1 : sizesL.map (fun n => (.lit (.int .i64 n) : DataW Unit)) = xs.map (·.1) := by have := (Prod.mk.inj ex).1; simpa using this
  have key : ∀ o, o < 8 → W.cell? ⟨0, o, none⟩ = some (.int .i64 (sizesL.getD o 0)) := by
    intro o ho
    obtain ⟨y, hy⟩ := some_of hl ho
    have hE := hel o ho
    rw [hy, Tryd.cells3] at hE
    obtain ⟨z, e2, e3, _⟩ := DataW.trod_int Tryd.underlying3 hE
    have h5 := at_of e2
    rw [World.var?_cell (show Tryd.prog.globalNamed "carrel/types.basicSizes" = some 0 by kernel_rfl) h3 o]
    have h6 : cs[o]? = some (.int .i64 z) := by simpa using h5
    rw [h6]
    have h7 := sizes_at o ho
    rw [e1, List.getElem?_map, hy] at h7
    simp only [Option.map_some, Option.some.injEq, e3, DataW.lit.injEq, Lit.int.injEq] at h7
    rw [h7.2]
  exact ⟨World.block_lt_of_cell? W _ (key 0 (by omega)), key⟩
theorem vs_laid {l : List (String × DataW Unit)} {W : World} (hl : l = [("carrel/types.basicSizes", Rows.laid_carrel_types_basicSizes)]) (h : laidMetH Tryd.prog l W) : Vs W := by
  subst hl
  rw [MakeChecks.laidMetH_plain _ _ _ (by kernel_rfl)] at h
  obtain ⟨ps, hl, _⟩ := h
  exact vs_of (laid_each hl ("carrel/types.basicSizes", Rows.laid_carrel_types_basicSizes) (by simp))
/-- .. told besides that what comes in is not too large. -/
theorem returns_sized {C : Checked} {H : Type} {enc : TypeId × Value → H} {os : Os} {f : FuncId} {fn : Func} {s : ChangeSpec} {X : World → Array Value → Prop} (hX : ∀ (w w' : World) (args : Array Value), w.heap = w'.heap → X w args → X w' args)
    (own : ownKnob C.prog.godebug = none) (started : os.Started) (noInit : C.prog.inits.idxOf? f = none) (hfn : C.prog.funcs[f]? = some fn)
    (witness : ∃ (w : World) (tape : Tape) (i : Input), w.os = os ∧ (w.forCall tape i).Shaped C.prog ∧ i.vars = [] ∧ Input.okWide C.prog (w.forCall tape i) .any w.heap.size f i ∧
      ((s.pre enc C.prog fn [] false (w.forCall tape i).memory i.args ∧ X (w.forCall tape i).memory i.args) ∧ sizedMet enc C.prog fn (OpenSpec.ofChange s) false (w.forCall tape i).memory i.args) ∧ ({} : Assume).holds C.prog (lone (Frame.enter C.prog f i.args .normal) [] (w.forCall tape i)))
    (K : ∀ (W : World) (base : Nat) (args : Array Value) (ds gs : List (DataW H)) (before : List MemPlace), W.ShapedOpen C.prog → X W args →
      (∀ (j : Nat) t v, fn.params[j]? = some t → args[j]? = some v → Value.okWide C.prog W .any base t v) → DataW.Whole enc C.prog fn.params.toList s.vars false W args.toList ds gs before →
      (∃ ds' gs' before', DataW.Whole enc C.prog fn.params.toList s.vars false W args.toList ds' gs' before' ∧ (DataW.weightsEach C.prog (fn.params.toList ++ (OpenSpec.ofChange s).bare.plain.varTypes C.prog) (ds' ++ gs')).all (· ≤ reachBytes) = true) →
      Calls C.prog f args W fun e W' => ∃ v, e = .returned v ∧ s.post enc C.prog fn false true false false W args v W') :
    ReturnsInHanded {} C os f .any (fun w args => (s.pre enc C.prog fn [] false w args ∧ X w args) ∧ sizedMet enc C.prog fn (OpenSpec.ofChange s) false w args) (s.post enc C.prog fn false true false false) := by
  refine returnsInHanded_of_calls own started noInit witness fun w tape i _ hS _ ok pre _ => ?_
  obtain ⟨_, _, _, fn', h', _, _, _, _, hv⟩ := ok
  obtain rfl : fn' = fn := Option.some.inj (h'.symm.trans hfn)
  obtain ⟨⟨⟨ds, gs, before, hw, _⟩, hx⟩, _, ds', gs', before', hw', hz'⟩ := pre
  refine (K (w.forCall tape i) w.heap.size i.args ds gs before hS (hX _ _ _ (by rfl) hx) hv (DataW.Whole.of_heap (w' := w.forCall tape i) (by rfl) hw) ⟨ds', gs', before', DataW.Whole.of_heap (w' := w.forCall tape i) (by rfl) hw', hz'⟩).mono fun e W' ⟨v, he, hp⟩ => ?_
  subst he
  exact ChangeSpec.post_blind hp
theorem laidOutB8 : laidOutB Tryd.prog = true := by kernel_rfl
end Go.Proofs.YtgkfnfilomjphaaDoor
