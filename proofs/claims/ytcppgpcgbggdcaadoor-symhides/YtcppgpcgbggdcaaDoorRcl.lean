/-
  Layer 7: the functions that the reader hands to its rows.
-/
import Derived.Test.YtcppgpcgbggdcaaDoorYrd
import Derived.Deep.MidRow
namespace Go.Proofs.YtcppgpcgbggdcaaDoor
set_option linter.unusedVariables false
set_option linter.unusedSimpArgs false
open Go.ChangeShapes Go.WideShapes Go.ChangeAt Go.RowKit

/-- The cell in which the reader's place is kept. -/
def Bx (w : World) (q b : Nat) : Prop := w.cell? ⟨q, 0, none⟩ = some (.pointer (some ⟨b, 0, none⟩)) ∧ q ≠ b ∧ q < w.heap.size
theorem Bx.gb {w X : World} {q b : Nat} (h : Bx w q b) (hg : w.grownBy X (some b)) : Bx X q b :=
  ⟨(World.cell?_of_block (a := ⟨q, 0, none⟩) (hg.block q h.2.2 (fun e => h.2.1 (by injection e)))).trans h.1, h.2.1, Nat.lt_of_lt_of_le h.2.2 hg.size⟩
theorem blk_keep {X Y : World} {b g : Nat} {o : Obj} (h : X.heap[g]? = some o) (hg : X.grownBy Y (some b)) (hne : g ≠ b) : Y.heap[g]? = some o :=
  (hg.block g (Array.getElem?_eq_some_iff.1 h).1 (fun e => hne (by injection e))).trans h
theorem blk_cell {Y : World} {g : Nat} {cs : Array Value} {t : TypeId} (h : Y.heap[g]? = some (.cells cs t (0, 0))) (j : Nat) : Y.cell? ⟨g, j, none⟩ = cs[j]? := by simp [World.cell?, h]
theorem blk_fz {Y : World} {g : Nat} {cs : Array Value} {t : TypeId} (h : Y.heap[g]? = some (.cells cs t (0, 0))) (j : Nat) : Y.frozen? ⟨g, j, none⟩ = false := by simp [World.frozen?, h]
theorem blk_new (w : World) (o : Obj) : (w.alloc o).heap[w.heap.size]? = some o := Array.getElem?_push_size
theorem blk_newd (w : World) (o : Obj) : (w.alloc o).drew.heap[w.heap.size]? = some o := Array.getElem?_push_size
theorem bx_cell {X Y : World} {q b : Nat} (h : X.cell? ⟨q, 0, none⟩ = some (.pointer (some ⟨b, 0, none⟩))) (hl : q < X.heap.size) (hne : q ≠ b) (hg : X.grownBy Y (some b)) : Y.cell? ⟨q, 0, none⟩ = some (.pointer (some ⟨b, 0, none⟩)) :=
  (World.cell?_of_block (a := ⟨q, 0, none⟩) (hg.block q hl (fun e => hne (by injection e)))).trans h
theorem gb_nset {w w' : World} {b g j : Nat} {v : Value} (h : w.grownBy w' (some b)) (hg : w.heap.size ≤ g) : w.grownBy (w'.setCell ⟨g, j, none⟩ v) (some b) :=
  ⟨h.os, h.tape, h.output, by simpa using h.size, fun k hk hne => (Below.heap_setCell _ _ _ _ (show k ≠ g by omega)).trans (h.block k hk hne)⟩
theorem Rdr.far {w : World} {b len cap : Nat} {a : Option Addr} {f : Nat → Int} {s : St} (h : Rdr w b a len cap f s) (g j : Nat) (v : Value) (hb : b ≠ g) (ha : ∀ ad, a = some ad → ad.block ≠ g) : Rdr (w.setCell ⟨g, j, none⟩ v) b a len cap f s :=
  h.same (by simp) (Below.heap_setCell _ _ _ _ hb) fun ad he => Below.heap_setCell _ _ _ _ (ha ad he)
theorem ret_cell1 {P : Program} {fn : Func} {R : Ending → World → Prop} {a : Act} {w : World} {p : Tmp} {ty : TypeId} {ad : Addr} {v : Value} (h : fn.results = #[.cell p ty]) (hp : a.tmps.getD p undef = .pointer (some ad)) (hl : (loadVar ty ad).run P w = .ok v w) (hd : a.defers = []) (hR : R (.returned v) w) : bodyPost P fn R .ret a w := by
  refine bodyPost_ret (v := v) ?_ hd hR
  have hp' : a.tmps[p]?.getD undef = .pointer (some ad) := by simpa using hp
  simp only [results, h]
  simp [hp', asAddr, hl]
theorem ret_cell_tmp {P : Program} {fn : Func} {R : Ending → World → Prop} {a : Act} {w : World} {p q : Tmp} {ty : TypeId} {ad : Addr} {v : Value} (h : fn.results = #[.cell p ty, .tmp q]) (hp : a.tmps.getD p undef = .pointer (some ad)) (hl : (loadVar ty ad).run P w = .ok v w) (hd : a.defers = []) (hR : R (.returned (.tuple #[v, a.tmps.getD q undef])) w) : bodyPost P fn R .ret a w := by
  refine bodyPost_ret (v := .tuple #[v, a.tmps.getD q undef]) ?_ hd hR
  have hp' : a.tmps[p]?.getD undef = .pointer (some ad) := by simpa using hp
  simp only [results, h]
  simp [hp', asAddr, hl]
theorem ret_cell_tmp2 {P : Program} {fn : Func} {R : Ending → World → Prop} {a : Act} {w : World} {p q r : Tmp} {ty : TypeId} {ad : Addr} {v : Value} (h : fn.results = #[.cell p ty, .tmp q, .tmp r]) (hp : a.tmps.getD p undef = .pointer (some ad)) (hl : (loadVar ty ad).run P w = .ok v w) (hd : a.defers = []) (hR : R (.returned (.tuple #[v, a.tmps.getD q undef, a.tmps.getD r undef])) w) : bodyPost P fn R .ret a w := by
  refine bodyPost_ret (v := .tuple #[v, a.tmps.getD q undef, a.tmps.getD r undef]) ?_ hd hR
  have hp' : a.tmps[p]?.getD undef = .pointer (some ad) := by simpa using hp
  simp only [results, h]
  simp [hp', asAddr, hl]
theorem load_blk {w : World} {g : Nat} {cs : Array Value} {ty : TypeId} {d : TypeDesc} (h : w.heap[g]? = some (.cells cs ty (0, 0))) (hu : Tryd.prog.underlying ty = some d) (hd : d.isRow = true) (hi : (Tryd.prog.info? ty).map (·.size) = some cs.size) : (loadVar ty ⟨g, 0, none⟩).run Tryd.prog w = .ok (.agg cs) w := by
  have := run_loadVar_mid (P := Tryd.prog) w g 0 ty cs.toList d (fun j v hv => by rw [Nat.zero_add, blk_cell h j]; simpa using hv) hu hd (by simpa using hi)
  simpa using this
/-- An Import. -/
def impS (f : Nat → Int) (len : Nat) (s : St) : (ByteArray × Int) × St := (((textS f len 20 s).1, (wordS f len (textS f len 20 s).2).1), (wordS f len (textS f len 20 s).2).2)
def impV (x : ByteArray × Int) : Array Value := #[.string x.1, .int .u32 x.2]
end Go.Proofs.YtcppgpcgbggdcaaDoor
