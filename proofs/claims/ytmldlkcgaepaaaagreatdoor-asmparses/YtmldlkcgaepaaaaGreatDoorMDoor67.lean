/-
  From what the program's text lays into the package-level variables to how they lie.
  The way from a contract to a row: by the listed variables and by the shape of all others.
-/
import Derived.Test.YtmldlkcgaepaaaaGreatDoorMP1
import Derived.ProofKit
import Derived.OpenShut
import Derived.MakeChecks
import Derived.Lib.LaidTab
import Derived.Shelf.Vars
import Derived.Test.YtmldlkcgaepaaaaGreatDoorRows
import Derived.Test.YtmldlkcgaepaaaaGreatDoorTie
import Derived.Test.YtmldlkcgaepaaaaGreatDoorCards
import Derived.Lay
import Derived.LaidMore
import Derived.SevenTiedAt
import Derived.JoinedOf
import Derived.ChangeSame
import Derived.Handed
namespace Go.Proofs.YtmldlkcgaepaaaaGreatDoor
set_option linter.unusedVariables false
set_option linter.unusedSimpArgs false
open Go.ChangeShapes Go.WideShapes Go.ChangeAt Go.RowKit

theorem at_of {l : List Value} {k : Nat} {v : Value} (h : (l.drop k).take 1 = [v]) : l[k]? = some v := by
  have : ((l.drop k).take 1)[0]? = some v := by rw [h]; rfl
  simpa using this
theorem some_of {α : Type} {xs : List α} {n i : Nat} (h : xs.length = n) (hi : i < n) : ∃ y, xs[i]? = some y := ⟨xs[i]'(by omega), List.getElem?_eq_getElem (by omega)⟩
theorem Tryz.cellsI : Tryz.prog.cellsOf 3 = 1 := by kernel_rfl
theorem Tryz.cells9 : Tryz.prog.cellsOf 9 = 1 := by kernel_rfl
/-- One listed variable: its block, its cells, what they read as. -/
def OneIs (W : World) (n : String) (d : DataW Unit) : Prop := ∃ g t cs fuel p, Tryz.prog.globalNamed n = some g ∧ (Tryz.prog.globals[g]?).map (·.type) = some t ∧ W.var? Tryz.prog n = some cs ∧ DataW.trod (fun _ => ()) Tryz.prog W 0 (fun _ => true) false fuel t cs.toList = some (d, p)
theorem laid_each {W : World} : ∀ {l : List (String × DataW Unit)} {ps : List MemPlace}, DataW.LaidVars Tryz.prog W l ps → ∀ x ∈ l, OneIs W x.1 x.2
  | [], _, _, x, hx => by cases hx
  | (n, d) :: r, ps, ⟨g, t, cs, fuel, p, q, h1, h2, h3, h4, h5, _⟩, x, hx => by
    rcases List.mem_cons.1 hx with rfl | hx
    · exact ⟨g, t, cs, fuel, p, h1, h2, h3, h4⟩
    · exact laid_each h5 x hx
theorem strs_of {W : World} {n : String} {ls : List Bs} {g : Nat} (h : OneIs W n (.agg (ls.map fun s => .lit (.string s)))) (hg : Tryz.prog.globalNamed n = some g) (ht : (Tryz.prog.globals[g]?).map (·.type) = some 43) :
    ∀ o (ho : o < 16), ∃ hl : o < ls.length, W.cell? ⟨g, o, none⟩ = some (.string (bs ls[o])) := by
  obtain ⟨g', t', cs, fuel, p, h1, h2, h3, h4⟩ := h
  obtain rfl := Option.some.inj (hg.symm.trans h1)
  obtain rfl := Option.some.inj (ht.symm.trans h2)
  obtain ⟨xs, m, _, ex, _, hl, hel⟩ := DataW.trod_array Tryz.underlying43 h4
  have e1 : ls.map (fun s => (.lit (.string s) : DataW Unit)) = xs.map (·.1) := by have := (Prod.mk.inj ex).1; simpa using this
  have hll : ls.length = xs.length := by have := congrArg List.length e1; simpa using this
  intro o ho
  refine ⟨by omega, ?_⟩
  obtain ⟨y, hy⟩ := some_of hl ho
  have hE := hel o ho
  rw [hy, Tryz.cells9] at hE
  obtain ⟨s, e2, e3, _⟩ := DataW.trod_string Tryz.underlying9 hE
  have h5 := at_of e2
  rw [World.var?_cell hg h3 o]
  have h6 : cs[o]? = some (.string s) := by simpa using h5
  rw [h6]
  have h7 : (ls.map (fun s => (.lit (.string s) : DataW Unit)))[o]? = (xs.map (·.1))[o]? := by rw [e1]
  rw [List.getElem?_map, List.getElem?_map, hy, List.getElem?_eq_getElem (show o < ls.length by omega)] at h7
  simp only [Option.map_some, Option.some.injEq, e3, DataW.lit.injEq, Lit.string.injEq] at h7
  rw [h7, bs_of]

def lsOf (d : DataW Unit) : List Bs := match d with
  | .agg l => l.map fun | .lit (.string s) => s | _ => []
  | _ => []
theorem conds_eq : (Rows.laid_carrel_asm_conditions : DataW Unit) = .agg ((lsOf Rows.laid_carrel_asm_conditions).map fun s => .lit (.string s)) := rfl
theorem ops_eq : (Rows.laid_carrel_asm_operations : DataW Unit) = .agg ((lsOf Rows.laid_carrel_asm_operations).map fun s => .lit (.string s)) := rfl
theorem conds_each : ∀ o : Nat, o < 16 → (lsOf Rows.laid_carrel_asm_conditions)[o]? = some (condName o) := by
  intro o ho
  rcases (show o = 0 ∨ o = 1 ∨ o = 2 ∨ o = 3 ∨ o = 4 ∨ o = 5 ∨ o = 6 ∨ o = 7 ∨ o = 8 ∨ o = 9 ∨ o = 10 ∨ o = 11 ∨ o = 12 ∨ o = 13 ∨ o = 14 ∨ o = 15 by omega) with rfl | rfl | rfl | rfl | rfl | rfl | rfl | rfl | rfl | rfl | rfl | rfl | rfl | rfl | rfl | rfl <;> rfl
theorem ops_each : ∀ o : Nat, o < 16 → (lsOf Rows.laid_carrel_asm_operations)[o]? = some (opName o) := by
  intro o ho
  rcases (show o = 0 ∨ o = 1 ∨ o = 2 ∨ o = 3 ∨ o = 4 ∨ o = 5 ∨ o = 6 ∨ o = 7 ∨ o = 8 ∨ o = 9 ∨ o = 10 ∨ o = 11 ∨ o = 12 ∨ o = 13 ∨ o = 14 ∨ o = 15 by omega) with rfl | rfl | rfl | rfl | rfl | rfl | rfl | rfl | rfl | rfl | rfl | rfl | rfl | rfl | rfl | rfl <;> rfl
theorem iface_of {W : World} {fuel : Nat} {t : TypeId} {ms : _} {cs : List Value} {nm : String} {d : DataW Unit} {p : List MemPlace} (ht : Tryz.prog.underlying t = some (.interface ms))
    (h : DataW.trod (fun _ => ()) Tryz.prog W 0 (fun _ => true) false fuel t cs = some (.iface nm d, p)) : ∃ u v, cs = [.iface u v] := by
  cases fuel with
  | zero => simp [DataW.trod] at h
  | succ fuel =>
    rcases cs with _ | ⟨v, _ | ⟨v2, r⟩⟩
    · simp [DataW.trod, ht] at h
    · cases v <;> first | exact ⟨_, _, rfl⟩ | (simp [DataW.trod, ht] at h)
    · simp [DataW.trod, ht] at h
theorem err_of {W : World} {n nm : String} {d : DataW Unit} {g : Nat} {t : TypeId} {ms : _} (h : OneIs W n (.iface nm d)) (hg : Tryz.prog.globalNamed n = some g) (ht : (Tryz.prog.globals[g]?).map (·.type) = some t) (hu : Tryz.prog.underlying t = some (.interface ms)) :
    ∃ u v, W.cell? ⟨g, 0, none⟩ = some (.iface u v) := by
  obtain ⟨g', t', cs, fuel, p, h1, h2, h3, h4⟩ := h
  obtain rfl := Option.some.inj (hg.symm.trans h1)
  obtain rfl := Option.some.inj (ht.symm.trans h2)
  obtain ⟨u, v, e⟩ := iface_of hu h4
  refine ⟨u, v, ?_⟩
  rw [World.var?_cell hg h3 0]
  have : cs.toList[0]? = some (.iface u v) := by rw [e]; rfl
  simpa using this
def tabV (o f : Nat) : Option (DataW Unit) := ((((Rows.laid_carrel_cpu_ways : DataW Unit) |> fun | .agg l => l | _ => [])[o]?.map fun | .agg l => l | _ => []).getD [])[f]?
theorem tab_all : ∀ o : Nat, o < 16 → tabV o 0 = some (.lit (.int .i64 (waysZ o 0))) ∧ tabV o 1 = some (.lit (.int .i64 (waysZ o 1))) := by
  intro o ho
  rcases (show o = 0 ∨ o = 1 ∨ o = 2 ∨ o = 3 ∨ o = 4 ∨ o = 5 ∨ o = 6 ∨ o = 7 ∨ o = 8 ∨ o = 9 ∨ o = 10 ∨ o = 11 ∨ o = 12 ∨ o = 13 ∨ o = 14 ∨ o = 15 by omega) with rfl | rfl | rfl | rfl | rfl | rfl | rfl | rfl | rfl | rfl | rfl | rfl | rfl | rfl | rfl | rfl <;> exact ⟨by kernel_rfl, by kernel_rfl⟩
theorem tab_eq (o : Nat) (ho : o < 16) (f : Nat) (hf : f < 2) : ((((Rows.laid_carrel_cpu_ways : DataW Unit) |> fun | .agg l => l | _ => [])[o]?.map fun | .agg l => l | _ => []).getD [])[f]? = some (.lit (.int .i64 (waysZ o f))) := by
  have hf2 : f = 0 ∨ f = 1 := by omega
  rcases hf2 with rfl | rfl
  · exact (tab_all o ho).1
  · exact (tab_all o ho).2
set_option maxRecDepth 100000 in
theorem ways_of {W : World} (h : OneIs W "carrel/cpu.ways" Rows.laid_carrel_cpu_ways) : Ways W := by
  obtain ⟨g, t, cs, fuel, p, hg, ht, hv, hd⟩ := h
  obtain rfl := Option.some.inj ((show Tryz.prog.globalNamed "carrel/cpu.ways" = some 3 by kernel_rfl).symm.trans hg)
  obtain rfl := Option.some.inj ((show (Tryz.prog.globals[3]?).map (·.type) = some 133 by kernel_rfl).symm.trans ht)
  obtain ⟨xs, m, _, ex, _, hl, hel⟩ := DataW.trod_array Tryz.underlying133 hd
  have c2 : Tryz.prog.cellsOf 132 = 2 := by kernel_rfl
  have key : ∀ o : Nat, o < 16 → ∀ f : Nat, f < 2 → cs[o * 2 + f]? = some (.int .i64 (waysZ o f)) := by
    intro o ho f hf
    obtain ⟨y, hy⟩ := some_of hl ho
    have hE := hel o ho
    rw [hy, c2] at hE
    obtain ⟨ys, m2, _, ey, _, hl2, hel2⟩ := DataW.trod_array Tryz.underlying132 hE
    obtain ⟨y2, hy2⟩ := some_of hl2 hf
    have hF := hel2 f hf
    rw [hy2, Tryz.cellsI] at hF
    obtain ⟨z, e1, e2, _⟩ := DataW.trod_int Tryz.underlying3 hF
    have hz : z = waysZ o f := by
      have t1 : (Rows.laid_carrel_cpu_ways : DataW Unit) = .agg (xs.map (·.1)) := (Prod.mk.inj ex).1
      have t2 := tab_eq o ho f hf
      rw [t1] at t2
      simp only [List.getElem?_map, hy, Option.map_some, ey, Option.getD_some, hy2, e2, Option.some.injEq, DataW.lit.injEq, Lit.int.injEq, true_and] at t2
      exact t2
    have h1 := at_of e1
    rw [hz] at h1
    have h2 : ((cs.toList.drop (o * 2)).take 2)[f * 1]? = some (.int .i64 (waysZ o f)) := h1
    rw [List.getElem?_take, if_pos (by omega), List.getElem?_drop, Nat.mul_one] at h2
    simpa using h2
  have cell : ∀ o : Nat, o < 16 → ∀ f : Nat, f < 2 → W.cell? ⟨3, o * 2 + f, none⟩ = some (.int .i64 (waysZ o f)) := fun o ho f hf => by
    rw [World.var?_cell hg hv (o * 2 + f)]; exact key o ho f hf
  refine ⟨World.block_lt_of_cell? W _ (cell 0 (by omega) 0 (by omega)), fun o f a b c d => ?_⟩
  have := cell o.toNat (by omega) f.toNat (by omega)
  rwa [Int.toNat_of_nonneg a, Int.toNat_of_nonneg c] at this
theorem pow_eq : (Rows.laid_internal_strconv_uint64pow10 : DataW Unit) = Lib.tabData .u64 Lib.pow10Tab := by kernel_rfl
theorem pow_of {W : World} (h : OneIs W "internal/strconv.uint64pow10" Rows.laid_internal_strconv_uint64pow10) : Lib.TabIs Tryz.prog W "internal/strconv.uint64pow10" .u64 Lib.pow10Tab := by
  obtain ⟨g, t, cs, fuel, p, hg, ht, hv, hd⟩ := h
  obtain rfl := Option.some.inj ((show Tryz.prog.globalNamed "internal/strconv.uint64pow10" = some 6 by kernel_rfl).symm.trans hg)
  obtain rfl := Option.some.inj ((show (Tryz.prog.globals[6]?).map (·.type) = some 151 by kernel_rfl).symm.trans ht)
  rw [pow_eq] at hd
  unfold Lib.TabIs
  rw [hv, ← Lib.cells_of_tab Tryz.underlying151 Tryz.underlying91 (by kernel_rfl) (by kernel_rfl) hd]
theorem max_of {W : World} (h : W.ShapedOpen Tryz.prog) : ∃ m, W.cell? ⟨2, 0, none⟩ = some (.int .i64 m) :=
  cell_of_shapedOpen_int (t := 3) (zero := #[.int .i64 0]) h (of_decide_eq_true (by kernel_rfl)) (by kernel_rfl) rfl (by kernel_rfl) (by kernel_rfl) Tryz.underlying3
/-- The ten variables that each of the six lists. -/
def laid6 : List (String × DataW Unit) := Rows.asmParsesRow.laid
theorem vars_of {W : World} (h : laidMetH Tryz.prog laid6 W) (hs : W.ShapedOpen Tryz.prog) : Vars W := by
  rw [MakeChecks.laidMetH_plain _ _ _ (by kernel_rfl)] at h
  obtain ⟨ps, hl, _⟩ := h
  have E := laid_each hl
  have hR := err_of (g := 8) (E ("strconv.ErrRange", Rows.laid_strconv_ErrRange) (by simp [laid6, Rows.asmParsesRow])) (by kernel_rfl) (by kernel_rfl) Tryz.underlying99
  have hS := err_of (g := 7) (E ("strconv.ErrSyntax", Rows.laid_strconv_ErrSyntax) (by simp [laid6, Rows.asmParsesRow])) (by kernel_rfl) (by kernel_rfl) Tryz.underlying99
  refine ⟨ways_of (E ("carrel/cpu.ways", Rows.laid_carrel_cpu_ways) (by simp [laid6, Rows.asmParsesRow])), ?_, fun o ho => ?_, fun o ho => ?_, pow_of (E ("internal/strconv.uint64pow10", Rows.laid_internal_strconv_uint64pow10) (by simp [laid6, Rows.asmParsesRow])), max_of hs, hS, hR⟩
  · obtain ⟨u, v, hv⟩ := hR
    exact World.block_lt_of_cell? W _ hv
  · have h1 := E ("carrel/asm.operations", Rows.laid_carrel_asm_operations) (by simp [laid6, Rows.asmParsesRow])
    rw [ops_eq] at h1
    obtain ⟨hl, hc⟩ := strs_of (g := 1) h1 (by kernel_rfl) (by kernel_rfl) o ho
    have := ops_each o ho
    rw [List.getElem?_eq_getElem hl] at this
    rw [hc, Option.some.inj this]
  · have h1 := E ("carrel/asm.conditions", Rows.laid_carrel_asm_conditions) (by simp [laid6, Rows.asmParsesRow])
    rw [conds_eq] at h1
    obtain ⟨hl, hc⟩ := strs_of (g := 0) h1 (by kernel_rfl) (by kernel_rfl) o ho
    have := conds_each o ho
    rw [List.getElem?_eq_getElem hl] at this
    rw [hc, Option.some.inj this]
end Go.Proofs.YtmldlkcgaepaaaaGreatDoor
namespace Go.Proofs.YtmldlkcgaepaaaaGreatDoor
set_option linter.unusedVariables false
open Go.ChangeShapes Go.WideShapes Go.ChangeAt Go.RowKit

/-- A contract at the worlds that a row speaks of, by its listed variables and by the shape of all others. -/
theorem returns_laid {C : Checked} {H : Type} {enc : TypeId × Value → H} {os : Os} {f : FuncId} {fn : Func} {s : ChangeSpec} {X : World → Array Value → Prop} (hX : ∀ (w w' : World) (args : Array Value), w.heap = w'.heap → X w args → X w' args)
    (own : ownKnob C.prog.godebug = none) (started : os.Started) (noInit : C.prog.inits.idxOf? f = none) (hfn : C.prog.funcs[f]? = some fn)
    (witness : ∃ (w : World) (tape : Tape) (i : Input), w.os = os ∧ (w.forCall tape i).Shaped C.prog ∧ i.vars = [] ∧ Input.okWide C.prog (w.forCall tape i) .any w.heap.size f i ∧
      ((s.pre enc C.prog fn [] false (w.forCall tape i).memory i.args ∧ X (w.forCall tape i).memory i.args) ∧ sizedMet enc C.prog fn (OpenSpec.ofChange s) false (w.forCall tape i).memory i.args) ∧ ({} : Assume).holds C.prog (lone (Frame.enter C.prog f i.args .normal) [] (w.forCall tape i)))
    (K : ∀ (W : World) (base : Nat) (args : Array Value) (ds gs : List (DataW H)) (before : List MemPlace), W.ShapedOpen C.prog → X W args →
      (∀ (j : Nat) t v, fn.params[j]? = some t → args[j]? = some v → Value.okWide C.prog W .any base t v) → DataW.Whole enc C.prog fn.params.toList s.vars false W args.toList ds gs before →
      Calls C.prog f args W fun e W' => ∃ v, e = .returned v ∧ s.post enc C.prog fn false true false false W args v W') :
    ReturnsInHanded {} C os f .any (fun w args => (s.pre enc C.prog fn [] false w args ∧ X w args) ∧ sizedMet enc C.prog fn (OpenSpec.ofChange s) false w args) (s.post enc C.prog fn false true false false) := by
  refine returnsInHanded_of_calls own started noInit witness fun w tape i _ hS _ ok pre _ => ?_
  obtain ⟨_, _, _, fn', h', _, _, _, _, hv⟩ := ok
  obtain rfl : fn' = fn := Option.some.inj (h'.symm.trans hfn)
  obtain ⟨⟨⟨ds, gs, before, hw, _⟩, hx⟩, _⟩ := pre
  refine (K (w.forCall tape i) w.heap.size i.args ds gs before hS (hX _ _ _ (by rfl) hx) hv (DataW.Whole.of_heap (w' := w.forCall tape i) (by rfl) hw)).mono fun e W' ⟨v, he, hp⟩ => ?_
  subst he
  exact ChangeSpec.post_blind hp
theorem own6 : ownKnob Tryz.prog.godebug = none := by kernel_rfl
theorem laidOut6 : laidOutB Tryz.prog = true := by kernel_rfl

end Go.Proofs.YtmldlkcgaepaaaaGreatDoor
