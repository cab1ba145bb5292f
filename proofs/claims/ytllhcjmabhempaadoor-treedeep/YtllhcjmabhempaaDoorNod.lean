/-
  Layer 9: nodes as plain data, and how they lie in memory; the reader.
-/
import Derived.Test.YtllhcjmabhempaaDoorTkn
import Derived.Test.YtllhcjmabhempaaDoorPrs
import Derived.Laws.AppendOwn
namespace Go.Proofs.YtllhcjmabhempaaDoor
set_option linter.unusedVariables false
set_option linter.unusedSimpArgs false
open Go.ChangeShapes Go.WideShapes Go.ChangeAt Go.RowKit

/-- A node's cells. -/
structure Nc where
  k : Int
  t : ByteArray
  n : Int
  f : Bool
  a : Option Addr
  l : Nat
  m : Nat
  p : Int
def Nc.cells (c : Nc) : Array Value := #[.int .i64 c.k, .string c.t, .int .i64 c.n, .bool c.f, .slice c.a c.l c.m, .int .i64 c.p]
theorem Nc.at0 (c : Nc) : c.cells[0]? = some (.int .i64 c.k) := rfl
theorem Nc.at1 (c : Nc) : c.cells[1]? = some (.string c.t) := rfl
theorem Nc.at2 (c : Nc) : c.cells[2]? = some (.int .i64 c.n) := rfl
theorem Nc.at3 (c : Nc) : c.cells[3]? = some (.bool c.f) := rfl
theorem Nc.at4 (c : Nc) : c.cells[4]? = some (.slice c.a c.l c.m) := rfl
theorem Nc.at5 (c : Nc) : c.cells[5]? = some (.int .i64 c.p) := rfl
theorem Nc.size (c : Nc) : c.cells.size = 6 := rfl
theorem Nc.ne (c : Nc) : (c.cells = #[]) = False := by simp [Nc.cells]
theorem Nc.set0 (c : Nc) (x : Int) : c.cells.setIfInBounds 0 (.int .i64 x) = { c with k := x }.cells := rfl
theorem Nc.set2 (c : Nc) (x : Int) : c.cells.setIfInBounds 2 (.int .i64 x) = { c with n := x }.cells := rfl
theorem Nc.set1 (c : Nc) (x : ByteArray) : c.cells.setIfInBounds 1 (.string x) = { c with t := x }.cells := rfl
theorem Nc.set3 (c : Nc) (x : Bool) : c.cells.setIfInBounds 3 (.bool x) = { c with f := x }.cells := rfl
theorem Nc.set4 (c : Nc) (a : Option Addr) (l m : Nat) : c.cells.setIfInBounds 4 (.slice a l m) = { c with a := a, l := l, m := m }.cells := rfl
theorem Nc.set5 (c : Nc) (x : Int) : c.cells.setIfInBounds 5 (.int .i64 x) = { c with p := x }.cells := rfl
theorem Nc.fold (k : Int) (t : ByteArray) (n : Int) (f : Bool) (a : Option Addr) (l m : Nat) (p : Int) : #[.int .i64 k, .string t, .int .i64 n, .bool f, .slice a l m, .int .i64 p] = ({ k := k, t := t, n := n, f := f, a := a, l := l, m := m, p := p } : Nc).cells := rfl
def loadNd (a : Addr) : Sem Value := loadVar 31 a
theorem loadNd_seal (a : Addr) : loadVar 31 a = loadNd a := rfl
theorem Tryd.sizeNd : (Tryd.prog.info? 31).map (·.size) = some 6 := by kernel_rfl
theorem loadNd_run (w : World) (b : Nat) : (loadNd ⟨b, 0, none⟩).run Tryd.prog w = (match rowAt w b with
    | some X => if X.size = 6 then .ok (.agg X) w else (loadNd ⟨b, 0 + 0, none⟩).run Tryd.prog w
    | none => (loadNd ⟨b, 0 + 0, none⟩).run Tryd.prog w) := by
  split
  · rename_i X hX
    split
    · rename_i hs
      have hl : X.toList.length = 6 := by simpa using hs
      have := run_loadVar_mid (P := Tryd.prog) w b 0 31 X.toList _ (fun j v hv => by rw [Nat.zero_add, rowAt_cell hX]; simpa using hv) Tryd.underlying31 rfl (by rw [hl]; exact Tryd.sizeNd)
      simpa [loadNd] using this
    · rfl
  · rfl
def storeNd (a : Addr) (v : Value) : Sem Unit := storeVar 31 a v
theorem storeNd_seal (a : Addr) (v : Value) : storeVar 31 a v = storeNd a v := rfl
theorem storeNd_run (w : World) (b : Nat) (c : Nc) (h : roomAt w b 6 = true) : (storeNd ⟨b, 0, none⟩ (.agg c.cells)).run Tryd.prog w = .ok () (putRow w b c.cells) := by
  rw [putRow_eq]; exact run_storeVar_mid w b 0 31 c.cells (room_there h) Tryd.sizeNd (by simp [Nc.cells, Value.oneCell'])
theorem loadNd_row {w : World} {b : Nat} {c : Nc} (h : rowAt w b = some c.cells) : (loadVar 31 ⟨b, 0, none⟩).run Tryd.prog w = .ok (.agg c.cells) w := by
  rw [loadNd_seal, loadNd_run, h]; simp [Nc.size]
theorem putNd_new (w : World) (t : TypeId) (c d : Nc) (k : Nat) (hk : k = w.heap.size) : putRow (w.alloc (.cells d.cells t)) k c.cells = w.alloc (.cells c.cells t) := putRow_new w t _ _ k hk rfl
theorem roomNd_new (w : World) (c : Nc) (t : TypeId) (k : Nat) (hk : k = w.heap.size) : roomAt (w.alloc (.cells c.cells t)) k 6 = true := roomAt_new w _ t _ k hk rfl
theorem rowNd_put (w : World) (b : Nat) (c : Nc) (h : roomAt w b 6 = true) : rowAt (putRow w b c.cells) b = some c.cells := rowAt_put h

mutual
/-- A tree that lies in blocks of a sort. -/
inductive NdAt (w : World) (P : Nat → Prop) : Nc → Nd → Prop
  | mk (k : Int) (t : Bs) (n : Int) (f : Bool) (kids : List Nd) (p : Nat) (a : Option Addr) (m : Nat) (h : KidsAt w P a 0 kids) : NdAt w P ⟨k, bs t, n, f, a, kids.length, m, (p : Int)⟩ (.mk k t n f kids p)
inductive KidsAt (w : World) (P : Nat → Prop) : Option Addr → Nat → List Nd → Prop
  | nil (a : Option Addr) (j : Nat) : KidsAt w P a j []
  | cons (b j : Nat) (c : Nc) (x : Nd) (r : List Nd) (hP : P b) (hb : b < w.heap.size) (hc : ∀ i, i < 6 → w.cell? ⟨b, j * 6 + i, none⟩ = c.cells[i]?) (hx : NdAt w P c x) (hr : KidsAt w P (some ⟨b, 0, none⟩) (j + 1) r) : KidsAt w P (some ⟨b, 0, none⟩) j (x :: r)
end
mutual
theorem NdAt.keep {w w' : World} {P Q : Nat → Prop} (hPQ : ∀ b, P b → b < w.heap.size → Q b) (hs : w.heap.size ≤ w'.heap.size) (hk : ∀ b, P b → b < w.heap.size → w'.heap[b]? = w.heap[b]?) {c : Nc} {x : Nd} : NdAt w P c x → NdAt w' Q c x
  | .mk k t n f kids p a m h => .mk k t n f kids p a m (KidsAt.keep hPQ hs hk h)
theorem KidsAt.keep {w w' : World} {P Q : Nat → Prop} (hPQ : ∀ b, P b → b < w.heap.size → Q b) (hs : w.heap.size ≤ w'.heap.size) (hk : ∀ b, P b → b < w.heap.size → w'.heap[b]? = w.heap[b]?) {a : Option Addr} {j : Nat} {l : List Nd} : KidsAt w P a j l → KidsAt w' Q a j l
  | .nil a j => .nil a j
  | .cons b j c x r hP hb hc hx hr => .cons b j c x r (hPQ b hP hb) (Nat.lt_of_lt_of_le hb hs) (fun i hi => (World.cell?_of_block (a := ⟨b, j * 6 + i, none⟩) (hk b hP hb)).trans (hc i hi)) (NdAt.keep hPQ hs hk hx) (KidsAt.keep hPQ hs hk hr)
end
attribute [go_sem ↓] loadNd_seal storeNd_seal
attribute [go_sem] loadNd_run storeNd_run roomNd_new putNd_new Nc.fold rowNd_put Nc.at0 Nc.at1 Nc.at2 Nc.at3 Nc.at4 Nc.at5 Nc.size Nc.set0 Nc.set1 Nc.set2 Nc.set3 Nc.set4 Nc.set5 Nc.ne
end Go.Proofs.YtllhcjmabhempaaDoor
