/-
  From what the program's text lays into the tables of keywords and signs to how they lie; the way from a contract to a row; texts that came in.
-/
import Derived.Test.YtphogfomlmjeiaaDoorTkn
import Derived.Test.YtphogfomlmjeiaaDoorTie
import Derived.Test.YtphogfomlmjeiaaDoorCards
import Derived.SliceStrings
import Derived.MakeChecks
import Derived.Lay
import Derived.LaidMore
import Derived.SevenTiedAt
import Derived.JoinedOf
import Derived.ChangeSame
import Derived.Handed
import Derived.SizedLaws
import Derived.ChangeOld
import Derived.Below
import Derived.Shelf.Vars
namespace Go.Proofs.YtphogfomlmjeiaaDoor
set_option linter.unusedVariables false
set_option linter.unusedSimpArgs false
open Go.ChangeShapes Go.WideShapes Go.ChangeAt Go.RowKit

theorem at_of {l : List Value} {k : Nat} {v : Value} (h : (l.drop k).take 1 = [v]) : l[k]? = some v := by
  have : ((l.drop k).take 1)[0]? = some v := by rw [h]; rfl
  simpa using this
theorem some_of {α : Type} {xs : List α} {n i : Nat} (h : xs.length = n) (hi : i < n) : ∃ y, xs[i]? = some y := ⟨xs[i]'(by omega), List.getElem?_eq_getElem (by omega)⟩
theorem Tryd.cells9 : Tryd.prog.cellsOf 9 = 1 := by kernel_rfl
/-- One listed variable: its block, its cells, what they read as. -/
def OneIs (W : World) (n : String) (d : DataW Unit) : Prop := ∃ g t cs fuel p, Tryd.prog.globalNamed n = some g ∧ (Tryd.prog.globals[g]?).map (·.type) = some t ∧ W.var? Tryd.prog n = some cs ∧ DataW.trod (fun _ => ()) Tryd.prog W 0 (fun _ => true) false fuel t cs.toList = some (d, p)
theorem laid_each {W : World} : ∀ {l : List (String × DataW Unit)} {ps : List MemPlace}, DataW.LaidVars Tryd.prog W l ps → ∀ x ∈ l, OneIs W x.1 x.2
  | [], _, _, x, hx => by cases hx
  | (n, d) :: r, ps, ⟨g, t, cs, fuel, p, q, h1, h2, h3, h4, h5, _⟩, x, hx => by
    rcases List.mem_cons.1 hx with rfl | hx
    · exact ⟨g, t, cs, fuel, p, h1, h2, h3, h4⟩
    · exact laid_each h5 x hx
theorem strs_of {W : World} {n : String} {ls : List Bs} {g t m : Nat} (h : OneIs W n (.agg (ls.map fun s => .lit (.string s)))) (hg : Tryd.prog.globalNamed n = some g) (ht : (Tryd.prog.globals[g]?).map (·.type) = some t) (hu : Tryd.prog.underlying t = some (.array m 9)) (hm : ls.length = m) :
    ∀ o (ho : o < ls.length), W.cell? ⟨g, o, none⟩ = some (.string (bs ls[o])) := by
  obtain ⟨g', t', cs, fuel, p, h1, h2, h3, h4⟩ := h
  obtain rfl := Option.some.inj (hg.symm.trans h1)
  obtain rfl := Option.some.inj (ht.symm.trans h2)
  obtain ⟨xs, k, _, ex, _, hl, hel⟩ := DataW.trod_array hu h4
  have e1 : ls.map (fun s => (.lit (.string s) : DataW Unit)) = xs.map (·.1) := by have := (Prod.mk.inj ex).1; simpa using this
  intro o ho
  obtain ⟨y, hy⟩ := some_of hl (hm ▸ ho)
  have hE := hel o (hm ▸ ho)
  rw [hy, Tryd.cells9] at hE
  obtain ⟨s, e2, e3, _⟩ := DataW.trod_string Tryd.underlying9 hE
  have h5 := at_of e2
  rw [World.var?_cell hg h3 o]
  have h6 : cs[o]? = some (.string s) := by simpa using h5
  rw [h6]
  have h7 : (ls.map (fun s => (.lit (.string s) : DataW Unit)))[o]? = (xs.map (·.1))[o]? := by rw [e1]
  rw [List.getElem?_map, List.getElem?_map, hy, List.getElem?_eq_getElem ho] at h7
  simp only [Option.map_some, Option.some.injEq, e3, DataW.lit.injEq, Lit.string.injEq] at h7
  rw [h7, bs_of]
theorem keys_eq : (Rows.laid_carrel_scan_keywords : DataW Unit) = .agg (keysL.map fun s => .lit (.string s)) := rfl
theorem signs_eq : (Rows.laid_carrel_scan_signs : DataW Unit) = .agg (signsL.map fun s => .lit (.string s)) := rfl
theorem keys_of {W : World} (h : OneIs W "carrel/scan.keywords" Rows.laid_carrel_scan_keywords) : KVars W := by
  rw [keys_eq] at h
  have hk := strs_of (g := 0) h (by kernel_rfl) (by kernel_rfl) Tryd.underlying60 rfl
  exact ⟨World.block_lt_of_cell? W _ (hk 0 (by decide)), hk⟩
theorem vars_of {W : World} (h : OneIs W "carrel/scan.keywords" Rows.laid_carrel_scan_keywords) (hs : OneIs W "carrel/scan.signs" Rows.laid_carrel_scan_signs) : Vars W := by
  rw [signs_eq] at hs
  have hk := strs_of (g := 1) hs (by kernel_rfl) (by kernel_rfl) Tryd.underlying64 rfl
  exact ⟨keys_of h, World.block_lt_of_cell? W _ (hk 0 (by decide)), hk⟩
/-- The tables that a law lists. -/
def laid1 : List (String × DataW Unit) := Rows.scanNamesRow.laid
def laid2 : List (String × DataW Unit) := Rows.scanReadsRow.laid
theorem kvars_laid {W : World} (h : laidMetH Tryd.prog laid1 W) : KVars W := by
  rw [MakeChecks.laidMetH_plain _ _ _ (by kernel_rfl)] at h
  obtain ⟨ps, hl, _⟩ := h
  exact keys_of (laid_each hl ("carrel/scan.keywords", Rows.laid_carrel_scan_keywords) (by simp [laid1, Rows.scanNamesRow]))
theorem vars_laid {W : World} (h : laidMetH Tryd.prog laid2 W) : Vars W := by
  rw [MakeChecks.laidMetH_plain _ _ _ (by kernel_rfl)] at h
  obtain ⟨ps, hl, _⟩ := h
  exact vars_of (laid_each hl ("carrel/scan.keywords", Rows.laid_carrel_scan_keywords) (by simp [laid2, Rows.scanReadsRow])) (laid_each hl ("carrel/scan.signs", Rows.laid_carrel_scan_signs) (by simp [laid2, Rows.scanReadsRow]))
/-- A contract at the worlds that a row speaks of, by its listed variables and by the shape of all others. -/
theorem returns_laid {C : Checked} {H : Type} {enc : TypeId × Value → H} {os : Os} {f : FuncId} {fn : Func} {s : ChangeSpec} {X : World → Array Value → Prop} (hX : ∀ (w w' : World) (args : Array Value), w.heap = w'.heap → X w args → X w' args)
    (own : ownKnob C.prog.godebug = none) (started : os.Started) (noInit : C.prog.inits.idxOf? f = none) (hfn : C.prog.funcs[f]? = some fn)
    (witness : ∃ (w : World) (tape : Tape) (i : Input), w.os = os ∧ (w.forCall tape i).Shaped C.prog ∧ i.vars = [] ∧ Input.okWide C.prog (w.forCall tape i) .any w.heap.size f i ∧
      ((s.pre enc C.prog fn [] false (w.forCall tape i).memory i.args ∧ X (w.forCall tape i).memory i.args) ∧ sizedMet enc C.prog fn (OpenSpec.ofChange s) false (w.forCall tape i).memory i.args) ∧ ({} : Assume).holds C.prog (lone (Frame.enter C.prog f i.args .normal) [] (w.forCall tape i)))
    (K : ∀ (W : World) (base : Nat) (args : Array Value) (ds gs : List (DataW H)) (before : List MemPlace), W.ShapedOpen C.prog → X W args →
      (∀ (j : Nat) t v, fn.params[j]? = some t → args[j]? = some v → Value.okWide C.prog W .any base t v) → DataW.Whole enc C.prog fn.params.toList s.vars false W args.toList ds gs before →
      Calls C.prog f args W fun e W' => ∃ v, e = .returned v ∧ s.post enc C.prog fn false true false false W args v W') :
    ReturnsInHanded {} C os f .any (fun w args => (s.pre enc C.prog fn [] false w args ∧ X w args) ∧ sizedMet enc C.prog fn (OpenSpec.ofChange s) false w args) (s.post enc C.prog fn false true false false) := by
  refine returnsInHanded_of_calls own started noInit witness fun w tape i _ hS _ ok pre _ => ?_
  obtain ⟨_, _, _, fn', h', _, _, _, _, hv⟩ := ok
  obtain rfl : fn' = fn := Option.some.inj (h'.symm.trans hfn)
  obtain ⟨⟨⟨ds, gs, before, hw, _⟩, hx⟩, _⟩ := pre
  refine (K (w.forCall tape i) w.heap.size i.args ds gs before hS (hX _ _ _ (by rfl) hx) hv (DataW.Whole.of_heap (w' := w.forCall tape i) (by rfl) hw)).mono fun e W' ⟨v, he, hp⟩ => ?_
  subst he
  exact ChangeSpec.post_blind hp
theorem ownK : ownKnob Tryd.prog.godebug = none := by kernel_rfl
theorem laidOutB8 : laidOutB Tryd.prog = true := by kernel_rfl
/-- A row of texts that came in: what a walk is told of it. -/
def RdS (w : World) (a : Option Addr) (len : Nat) (f : Nat → Bs) : Prop :=
  len ≤ 9223372036854775807 ∧ ∀ i, i < len → ∃ b off, a = some ⟨b, off, none⟩ ∧ w.cell? ⟨b, off + i, none⟩ = some (.string (bs (f i))) ∧ (f i).length ≤ 9223372036854775807
theorem rds_of {H : Type} {enc : TypeId × Value → H} {W : World} {base : Nat} {spare : Nat → Bool} {held : Bool} {a : Option Addr} {len cap : Nat} {d : DataW H} {p : List MemPlace}
    (h : DataW.Trod enc Tryd.prog W base spare held 22 (.slice a len cap) d p) : ∃ f, RdS W a len f := by
  obtain ⟨fuel, hf⟩ := h
  rcases open_strings Tryd.underlying22 Tryd.underlying9 Tryd.cells9 hf with ⟨hcs, _⟩ | ⟨x, l, c, ss, hcs, _, hl, hm, hlen, hd, hcell, hsz⟩
  · simp [Value.cells] at hcs
    obtain ⟨rfl, rfl, rfl⟩ := hcs
    exact ⟨fun _ => [], by omega, fun i hi => by omega⟩
  · simp [Value.cells] at hcs
    obtain ⟨rfl, rfl, rfl⟩ := hcs
    have hls : len ≤ ss.length := by rw [hlen]; split <;> omega
    unfold maxLen at hm
    refine ⟨fun i => (ss.getD i ByteArray.empty).data.toList, by omega, fun i hi => ?_⟩
    obtain ⟨b, off, spot⟩ := x
    have hc := hcell 0 (by omega)
    have hspot : spot = none := by simpa [Addr.add] using World.cell?_spot hc
    subst hspot
    refine ⟨b, off, rfl, ?_, ?_⟩
    · have h1 := hcell i (by omega)
      rw [Addr.add_mid] at h1
      rw [h1, bs_of]
    · have h2 : ss.getD i ByteArray.empty ∈ ss := by
        rw [List.getD_eq_getElem?_getD, List.getElem?_eq_getElem (show i < ss.length by omega)]
        exact List.getElem_mem _
      have := hsz _ h2
      unfold maxLen at this
      rw [Lib.size_eq] at this
      exact this
end Go.Proofs.YtphogfomlmjeiaaDoor
