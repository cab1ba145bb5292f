/-
  Processors and instructions as plain data, and how they lie in memory.
-/
import Derived.Test.YtmldlkcgaepaaaaGreatDoorMMoves
import Derived.WalkKit
import Derived.ProofKit
import Derived.OpenShut
import Derived.ShutString
import Derived.OwnWalk
import Derived.Deep.QuietTactic
import Derived.Deep.MidRow
import Derived.Deep.RegionHeld3
import Derived.BigQuiet
import Derived.Lib.SmallJoins
import Derived.Handy
namespace Go.Proofs.YtmldlkcgaepaaaaGreatDoor
open Go.ChangeShapes Go.WideShapes Go.ChangeAt Go.RowKit

structure Cp where
  R : Nat → Int
  H : Int
  N : Bool
  Z : Bool
  C : Bool
  V : Bool
  PC : Int
def Cp.cells (c : Cp) : Array Value := #[.int .u32 (c.R 0), .int .u32 (c.R 1), .int .u32 (c.R 2), .int .u32 (c.R 3), .int .u32 (c.R 4), .int .u32 (c.R 5), .int .u32 (c.R 6), .int .u32 (c.R 7), .int .u32 (c.R 8), .int .u32 (c.R 9), .int .u32 (c.R 10), .int .u32 (c.R 11), .int .u32 (c.R 12), .int .u32 (c.R 13), .int .u32 (c.R 14), .int .u32 (c.R 15), .int .u32 c.H, .bool c.N, .bool c.Z, .bool c.C, .bool c.V, .int .u32 c.PC]
theorem Cp.at16 (c : Cp) : c.cells[16]? = some (.int .u32 c.H) := rfl
theorem Cp.at17 (c : Cp) : c.cells[17]? = some (.bool c.N) := rfl
theorem Cp.at18 (c : Cp) : c.cells[18]? = some (.bool c.Z) := rfl
theorem Cp.at19 (c : Cp) : c.cells[19]? = some (.bool c.C) := rfl
theorem Cp.at20 (c : Cp) : c.cells[20]? = some (.bool c.V) := rfl
theorem Cp.at21 (c : Cp) : c.cells[21]? = some (.int .u32 c.PC) := rfl
theorem Cp.size (c : Cp) : c.cells.size = 22 := rfl
theorem Cp.atR (c : Cp) (i : Nat) (h : i < 16) : c.cells[i]? = some (.int .u32 (c.R i)) := by
  have : i = 0 ∨ i = 1 ∨ i = 2 ∨ i = 3 ∨ i = 4 ∨ i = 5 ∨ i = 6 ∨ i = 7 ∨ i = 8 ∨ i = 9 ∨ i = 10 ∨ i = 11 ∨ i = 12 ∨ i = 13 ∨ i = 14 ∨ i = 15 := by omega
  rcases this with rfl|rfl|rfl|rfl|rfl|rfl|rfl|rfl|rfl|rfl|rfl|rfl|rfl|rfl|rfl|rfl <;> rfl
def Cp.setR (c : Cp) (a : Nat) (x : Int) : Cp := { c with R := fun j => if j = a then x else c.R j }
theorem Cp.set16 (c : Cp) (x : Int) : c.cells.setIfInBounds 16 (.int .u32 x) = { c with H := x }.cells := rfl
theorem Cp.set17 (c : Cp) (x : Bool) : c.cells.setIfInBounds 17 (.bool x) = { c with N := x }.cells := rfl
theorem Cp.set18 (c : Cp) (x : Bool) : c.cells.setIfInBounds 18 (.bool x) = { c with Z := x }.cells := rfl
theorem Cp.set19 (c : Cp) (x : Bool) : c.cells.setIfInBounds 19 (.bool x) = { c with C := x }.cells := rfl
theorem Cp.set20 (c : Cp) (x : Bool) : c.cells.setIfInBounds 20 (.bool x) = { c with V := x }.cells := rfl
theorem Cp.set21 (c : Cp) (x : Int) : c.cells.setIfInBounds 21 (.int .u32 x) = { c with PC := x }.cells := rfl
theorem Cp.setAt (c : Cp) (a : Nat) (x : Int) (h : a < 16) : c.cells.setIfInBounds a (.int .u32 x) = (c.setR a x).cells := by
  have : a = 0 ∨ a = 1 ∨ a = 2 ∨ a = 3 ∨ a = 4 ∨ a = 5 ∨ a = 6 ∨ a = 7 ∨ a = 8 ∨ a = 9 ∨ a = 10 ∨ a = 11 ∨ a = 12 ∨ a = 13 ∨ a = 14 ∨ a = 15 := by omega
  rcases this with rfl|rfl|rfl|rfl|rfl|rfl|rfl|rfl|rfl|rfl|rfl|rfl|rfl|rfl|rfl|rfl <;> rfl
def Cp.zero : Cp := { R := fun _ => 0, H := 0, N := false, Z := false, C := false, V := false, PC := 0 }
theorem Cp.zero_fold : #[.int .u32 0, .int .u32 0, .int .u32 0, .int .u32 0, .int .u32 0, .int .u32 0, .int .u32 0, .int .u32 0, .int .u32 0, .int .u32 0, .int .u32 0, .int .u32 0, .int .u32 0, .int .u32 0, .int .u32 0, .int .u32 0, .int .u32 0, .bool false, .bool false, .bool false, .bool false, .int .u32 0] = Cp.zero.cells := rfl
structure Cp.Ok (c : Cp) : Prop where
  R : ∀ i, i < 16 → 0 ≤ c.R i ∧ c.R i ≤ 4294967295
  H : 0 ≤ c.H ∧ c.H ≤ 4294967295
  PC : 0 ≤ c.PC ∧ c.PC ≤ 4294967295

structure In where
  F : Int
  U : Bool
  V : Bool
  A : Int
  B : Int
  O : Int
  C : Int
  N : Int
def In.cells (i : In) : Array Value := #[.int .i64 i.F, .bool i.U, .bool i.V, .int .i64 i.A, .int .i64 i.B, .int .i64 i.O, .int .i64 i.C, .int .i64 i.N]
theorem In.at0 (c : In) : c.cells[0]? = some (.int .i64 c.F) := rfl
theorem In.at1 (c : In) : c.cells[1]? = some (.bool c.U) := rfl
theorem In.at2 (c : In) : c.cells[2]? = some (.bool c.V) := rfl
theorem In.at3 (c : In) : c.cells[3]? = some (.int .i64 c.A) := rfl
theorem In.at4 (c : In) : c.cells[4]? = some (.int .i64 c.B) := rfl
theorem In.at5 (c : In) : c.cells[5]? = some (.int .i64 c.O) := rfl
theorem In.at6 (c : In) : c.cells[6]? = some (.int .i64 c.C) := rfl
theorem In.at7 (c : In) : c.cells[7]? = some (.int .i64 c.N) := rfl
theorem In.size (c : In) : c.cells.size = 8 := rfl
theorem In.set0 (c : In) (x : Int) : c.cells.setIfInBounds 0 (.int .i64 x) = { c with F := x }.cells := rfl
theorem In.set1 (c : In) (x : Bool) : c.cells.setIfInBounds 1 (.bool x) = { c with U := x }.cells := rfl
theorem In.set2 (c : In) (x : Bool) : c.cells.setIfInBounds 2 (.bool x) = { c with V := x }.cells := rfl
theorem In.set3 (c : In) (x : Int) : c.cells.setIfInBounds 3 (.int .i64 x) = { c with A := x }.cells := rfl
theorem In.ne (c : In) : (c.cells = #[]) = False := by simp [In.cells]
theorem Cp.ne (c : Cp) : (c.cells = #[]) = False := by simp [Cp.cells]
theorem In.set4 (c : In) (x : Int) : c.cells.setIfInBounds 4 (.int .i64 x) = { c with B := x }.cells := rfl
theorem In.set5 (c : In) (x : Int) : c.cells.setIfInBounds 5 (.int .i64 x) = { c with O := x }.cells := rfl
theorem In.set6 (c : In) (x : Int) : c.cells.setIfInBounds 6 (.int .i64 x) = { c with C := x }.cells := rfl
theorem In.set7 (c : In) (x : Int) : c.cells.setIfInBounds 7 (.int .i64 x) = { c with N := x }.cells := rfl
def In.zero : In := { F := 0, U := false, V := false, A := 0, B := 0, O := 0, C := 0, N := 0 }
theorem In.fold (f : Int) (u v : Bool) (a b o c n : Int) : #[.int .i64 f, .bool u, .bool v, .int .i64 a, .int .i64 b, .int .i64 o, .int .i64 c, .int .i64 n] = ({ F := f, U := u, V := v, A := a, B := b, O := o, C := c, N := n } : In).cells := rfl
theorem In.zero_fold : #[.int .i64 0, .bool false, .bool false, .int .i64 0, .int .i64 0, .int .i64 0, .int .i64 0, .int .i64 0] = In.zero.cells := rfl

/-! How a whole struct is loaded: by its block, not cell by cell. -/
def rowAt (w : World) (b : Nat) : Option (Array Value) := match w.heap[b]? with
  | some (.cells cs _ _) => some cs
  | _ => none
theorem rowAt_new (w : World) (X : Array Value) (t : TypeId) (fr : Nat × Nat) : rowAt (w.alloc (.cells X t fr)) w.heap.size = some X := by
  have : (w.alloc (.cells X t fr)).heap[w.heap.size]? = some (.cells X t fr) := by
    show (w.heap.push _)[w.heap.size]? = _
    simp
  simp only [rowAt, this]
theorem rowAt_old (w : World) (o : Obj) (b : Nat) (h : b ≠ w.heap.size) : rowAt (w.alloc o) b = rowAt w b := by
  have : (w.alloc o).heap[b]? = w.heap[b]? := by
    show (w.heap.push _)[b]? = _
    rw [Array.getElem?_push]; simp [h]
  simp only [rowAt, this]
theorem rowAt_drew (w : World) (b : Nat) : rowAt w.drew b = rowAt w b := rfl
theorem rowAt_drewN (w : World) (n b : Nat) : rowAt (w.drewN n) b = rowAt w b := rfl
theorem rowAt_cell {w : World} {b : Nat} {X : Array Value} (h : rowAt w b = some X) (i : Nat) : w.cell? ⟨b, i, none⟩ = X[i]? := by
  unfold rowAt at h
  split at h
  · rename_i hb
    cases h
    simp [World.cell?, hb]
  · cases h
theorem rowAt_below {B : Nat} {w w' : World} (hb : Below B w w') (b : Nat) (h : b < B) : rowAt w' b = rowAt w b := by
  unfold rowAt; rw [hb.block b h]
def stuckLoad (t : TypeId) (a : Addr) : Sem Value := loadVar t a
def roomAt (w : World) (b n : Nat) : Bool := match w.heap[b]? with
  | some (.cells Y _ fr) => Y.size == n && fr == (0, 0)
  | _ => false
theorem roomAt_new (w : World) (X : Array Value) (t : TypeId) (n k : Nat) (hk : k = w.heap.size) (h : X.size = n) : roomAt (w.alloc (.cells X t)) k n = true := by
  subst hk
  have : (w.alloc (.cells X t)).heap[w.heap.size]? = some (.cells X t) := by
    show (w.heap.push _)[w.heap.size]? = _
    simp
  simp only [roomAt, this]; simp [h]
theorem roomAt_old (w : World) (o : Obj) (b n : Nat) (h : b < w.heap.size) : roomAt (w.alloc o) b n = roomAt w b n := by
  have : (w.alloc o).heap[b]? = w.heap[b]? := by
    show (w.heap.push _)[b]? = _
    rw [Array.getElem?_push]; simp [Nat.ne_of_lt h]
  simp only [roomAt, this]
theorem roomAt_drew (w : World) (b n : Nat) : roomAt w.drew b n = roomAt w b n := rfl
theorem roomAt_drewN (w : World) (k b n : Nat) : roomAt (w.drewN k) b n = roomAt w b n := rfl
theorem roomAt_below {B : Nat} {w w' : World} (hb : Below B w w') (b n : Nat) (h : b < B) : roomAt w' b n = roomAt w b n := by
  unfold roomAt; rw [hb.block b h]
theorem room_there {w : World} {b n : Nat} (h : roomAt w b n = true) : w.there b 0 n := by
  unfold roomAt at h
  split at h
  · rename_i Y t fr hb
    simp only [Bool.and_eq_true, beq_iff_eq] at h
    obtain ⟨h1, h2⟩ := h
    subst h2
    intro j hj
    refine ⟨?_, ?_⟩
    · rw [Nat.zero_add, show w.cell? ⟨b, j, none⟩ = Y[j]? by simp [World.cell?, hb], Array.getElem?_eq_getElem (by omega)]; rfl
    · simp [World.frozen?, hb]
  · cases h
theorem putRow_is (w : World) (b : Nat) (X : Array Value) : ∃ w' : World, w' = w.setCells b 0 X.toList := ⟨_, rfl⟩
noncomputable def putRow (w : World) (b : Nat) (X : Array Value) : World := Classical.choose (putRow_is w b X)
theorem putRow_eq (w : World) (b : Nat) (X : Array Value) : putRow w b X = w.setCells b 0 X.toList := Classical.choose_spec (putRow_is w b X)
def putList : Array Value → Nat → List Value → Array Value
  | Y, _, [] => Y
  | Y, o, v :: r => putList (Y.setIfInBounds o v) (o + 1) r
theorem setCells_new (w : World) (t : TypeId) : ∀ (vs : List Value) (o : Nat) (Y : Array Value), (w.alloc (.cells Y t)).setCells w.heap.size o vs = w.alloc (.cells (putList Y o vs) t)
  | [], _, _ => rfl
  | v :: r, o, Y => by
    rw [World.setCells, World.setCell_alloc_new, setCells_new w t r, putList]
theorem putList_size : ∀ (vs : List Value) (o : Nat) (Y : Array Value), (putList Y o vs).size = Y.size
  | [], _, _ => rfl
  | v :: r, o, Y => by rw [putList, putList_size r]; simp
theorem putList_at : ∀ (vs : List Value) (o : Nat) (Y : Array Value) (k : Nat), k < Y.size → (putList Y o vs)[k]? = if o ≤ k ∧ k < o + vs.length then vs[k - o]? else Y[k]?
  | [], o, Y, k, _ => by simp [putList]; intros; omega
  | v :: r, o, Y, k, hk => by
    rw [putList, putList_at r (o + 1) _ k (by simpa using hk)]
    by_cases h1 : o + 1 ≤ k ∧ k < o + 1 + r.length
    · rw [if_pos h1, if_pos (by simp; omega), show k - o = (k - (o + 1)) + 1 by omega]; simp
    · rw [if_neg h1]
      by_cases h2 : k = o
      · subst h2; rw [if_pos (by simp)]; simp [hk]
      · rw [if_neg (by simp; omega)]; simp [Ne.symm h2]
theorem putList_all (X Y : Array Value) (h : Y.size = X.size) : putList Y 0 X.toList = X := by
  apply Array.ext_getElem?
  intro k
  by_cases hk : k < Y.size
  · rw [putList_at _ _ _ _ hk, if_pos (by simp; omega)]; simp
  · rw [Array.getElem?_eq_none (by rw [putList_size]; omega), Array.getElem?_eq_none (by omega)]
theorem putRow_new (w : World) (t : TypeId) (X Y : Array Value) (k : Nat) (hk : k = w.heap.size) (h : Y.size = X.size) : putRow (w.alloc (.cells Y t)) k X = w.alloc (.cells X t) := by
  subst hk
  rw [putRow_eq, setCells_new, putList_all X Y h]
theorem putCpu_new (w : World) (t : TypeId) (c d : Cp) (k : Nat) (hk : k = w.heap.size) : putRow (w.alloc (.cells d.cells t)) k c.cells = w.alloc (.cells c.cells t) := putRow_new w t _ _ k hk rfl
theorem putIn_new (w : World) (t : TypeId) (c d : In) (k : Nat) (hk : k = w.heap.size) : putRow (w.alloc (.cells d.cells t)) k c.cells = w.alloc (.cells c.cells t) := putRow_new w t _ _ k hk rfl
theorem roomCpu_new (w : World) (c : Cp) (t : TypeId) (k : Nat) (hk : k = w.heap.size) : roomAt (w.alloc (.cells c.cells t)) k 22 = true := roomAt_new w _ t _ k hk rfl
theorem roomIn_new (w : World) (c : In) (t : TypeId) (k : Nat) (hk : k = w.heap.size) : roomAt (w.alloc (.cells c.cells t)) k 8 = true := roomAt_new w _ t _ k hk rfl
theorem rowAt_at (w : World) (X : Array Value) (t : TypeId) (fr : Nat × Nat) (k : Nat) (hk : k = w.heap.size) : rowAt (w.alloc (.cells X t fr)) k = some X := by subst hk; exact rowAt_new w X t fr
theorem setCells_past (o : Obj) (b : Nat) : ∀ (vs : List Value) (k : Nat) (w : World), b < w.heap.size → (w.alloc o).setCells b k vs = (w.setCells b k vs).alloc o
  | [], _, _, _ => rfl
  | v :: r, k, w, h => by
    rw [World.setCells, World.setCells, World.setCell_alloc_past _ _ _ _ h, setCells_past o b r (k + 1) _ (by simpa using h)]
theorem putRow_past (w : World) (o : Obj) (b : Nat) (X : Array Value) (h : b < w.heap.size) : putRow (w.alloc o) b X = (putRow w b X).alloc o := by rw [putRow_eq, putRow_eq]; exact setCells_past o b _ _ _ h
theorem setCells_drew (b : Nat) : ∀ (vs : List Value) (k : Nat) (w : World), w.drew.setCells b k vs = (w.setCells b k vs).drew
  | [], _, _ => rfl
  | v :: r, k, w => by rw [World.setCells, World.setCells, World.setCell_drew, setCells_drew b r]
theorem alloc_drewN (w : World) (n : Nat) (o : Obj) : (w.drewN n).alloc o = (w.alloc o).drewN n := rfl
theorem setCell_drewN (w : World) (n : Nat) (a : Addr) (v : Value) : (w.drewN n).setCell a v = (w.setCell a v).drewN n := rfl
theorem setCells_drewN (n b : Nat) : ∀ (vs : List Value) (k : Nat) (w : World), (w.drewN n).setCells b k vs = (w.setCells b k vs).drewN n
  | [], _, _ => rfl
  | v :: r, k, w => by rw [World.setCells, World.setCells, setCell_drewN, setCells_drewN n b r]
theorem putRow_drewN (w : World) (n b : Nat) (X : Array Value) : putRow (w.drewN n) b X = (putRow w b X).drewN n := by rw [putRow_eq, putRow_eq]; exact setCells_drewN n b _ _ _
theorem below_setCells {B : Nat} {a : World} (b : Nat) (hb : B ≤ b) : ∀ (vs : List Value) (k : Nat) (w : World), Below B a w → Below B a (w.setCells b k vs)
  | [], _, _, h => h
  | v :: r, k, w, h => by rw [World.setCells]; exact below_setCells b hb r (k + 1) _ (h.setCell (by simpa using hb) _)
theorem below_put {B : Nat} {a w : World} (h : Below B a w) (b : Nat) (hb : B ≤ b) (X : Array Value) : Below B a (putRow w b X) := by
  rw [putRow_eq]; exact below_setCells b hb _ _ _ h
theorem setCells_heap {b : Nat} {t : TypeId} {fr : Nat × Nat} : ∀ (vs : List Value) (k : Nat) (w : World) (Y : Array Value), w.heap[b]? = some (.cells Y t fr) → (w.setCells b k vs).heap[b]? = some (.cells (putList Y k vs) t fr)
  | [], _, _, _, h => h
  | v :: r, k, w, Y, h => by rw [World.setCells, putList]; exact setCells_heap r (k + 1) _ _ (Go.Joins.block_setCell h v)
theorem rowAt_put {w : World} {b : Nat} {X : Array Value} (h : roomAt w b X.size = true) : rowAt (putRow w b X) b = some X := by
  unfold roomAt at h
  split at h
  · rename_i Y t fr hb
    simp only [Bool.and_eq_true, beq_iff_eq] at h
    rw [putRow_eq]
    unfold rowAt
    rw [setCells_heap _ _ _ _ hb, putList_all X Y h.1]
  · cases h
theorem size_setCells (b : Nat) : ∀ (vs : List Value) (k : Nat) (w : World), (w.setCells b k vs).heap.size = w.heap.size
  | [], _, _ => rfl
  | v :: r, k, w => by rw [World.setCells, size_setCells b r]; simp
theorem size_put (w : World) (b : Nat) (X : Array Value) : (putRow w b X).heap.size = w.heap.size := by rw [putRow_eq]; exact size_setCells b _ _ _
theorem rowCpu_put (w : World) (b : Nat) (c : Cp) (h : roomAt w b 22 = true) : rowAt (putRow w b c.cells) b = some c.cells := rowAt_put h
theorem rowIn_put (w : World) (b : Nat) (c : In) (h : roomAt w b 8 = true) : rowAt (putRow w b c.cells) b = some c.cells := rowAt_put h
theorem putRow_drew (w : World) (b : Nat) (X : Array Value) : putRow w.drew b X = (putRow w b X).drew := by rw [putRow_eq, putRow_eq]; exact setCells_drew b _ _ _

def loadIn (a : Addr) : Sem Value := loadVar 52 a
theorem loadIn_seal (a : Addr) : loadVar 52 a = loadIn a := rfl
theorem Tryz.sizeIn : (Tryz.prog.info? 52).map (·.size) = some 8 := by kernel_rfl
theorem loadIn_run (w : World) (b : Nat) : (loadIn ⟨b, 0, none⟩).run Tryz.prog w = (match rowAt w b with
    | some X => if X.size = 8 then .ok (.agg X) w else (loadIn ⟨b, 0 + 0, none⟩).run Tryz.prog w
    | none => (loadIn ⟨b, 0 + 0, none⟩).run Tryz.prog w) := by
  split
  · rename_i X hX
    split
    · rename_i hs
      have hl : X.toList.length = 8 := by simpa using hs
      have := run_loadVar_mid (P := Tryz.prog) w b 0 52 X.toList _ (fun j v hv => by rw [Nat.zero_add, rowAt_cell hX]; simpa using hv) Tryz.underlying52 rfl (by rw [hl]; exact Tryz.sizeIn)
      simpa [loadIn] using this
    · rfl
  · rfl
def storeIn (a : Addr) (v : Value) : Sem Unit := storeVar 52 a v
theorem storeIn_seal (a : Addr) (v : Value) : storeVar 52 a v = storeIn a v := rfl
theorem storeIn_run (w : World) (b : Nat) (c : In) (h : roomAt w b 8 = true) : (storeIn ⟨b, 0, none⟩ (.agg c.cells)).run Tryz.prog w = .ok () (putRow w b c.cells) := by
  rw [putRow_eq]; exact run_storeVar_mid w b 0 52 c.cells (room_there h) Tryz.sizeIn (by simp [In.cells, Value.oneCell'])

theorem loadIn_row {w : World} {b : Nat} {c : In} (h : rowAt w b = some c.cells) : (loadVar 52 ⟨b, 0, none⟩).run Tryz.prog w = .ok (.agg c.cells) w := by
  rw [loadIn_seal, loadIn_run, h]; simp [In.size]
theorem ret_cell1 {P : Program} {fn : Func} {R : Ending → World → Prop} {a : Act} {w : World} {p : Tmp} {ty : TypeId} {ad : Addr} {v : Value} (h : fn.results = #[.cell p ty]) (hp : a.tmps.getD p undef = .pointer (some ad)) (hl : (loadVar ty ad).run P w = .ok v w) (hd : a.defers = []) (hR : R (.returned v) w) : bodyPost P fn R .ret a w := by
  refine bodyPost_ret (v := v) ?_ hd hR
  have hp' : a.tmps[p]?.getD undef = .pointer (some ad) := by simpa using hp
  simp only [results, h]
  simp [hp', asAddr, hl]
theorem ret_cell_tmp {P : Program} {fn : Func} {R : Ending → World → Prop} {a : Act} {w : World} {p q : Tmp} {ty : TypeId} {ad : Addr} {v : Value} (h : fn.results = #[.cell p ty, .tmp q]) (hp : a.tmps.getD p undef = .pointer (some ad)) (hl : (loadVar ty ad).run P w = .ok v w) (hd : a.defers = []) (hR : R (.returned (.tuple #[v, a.tmps.getD q undef])) w) : bodyPost P fn R .ret a w := by
  refine bodyPost_ret (v := .tuple #[v, a.tmps.getD q undef]) ?_ hd hR
  have hp' : a.tmps[p]?.getD undef = .pointer (some ad) := by simpa using hp
  simp only [results, h]
  simp [hp', asAddr, hl]
theorem ret_cell_tmp2 {P : Program} {fn : Func} {R : Ending → World → Prop} {a : Act} {w : World} {p q r : Tmp} {ty : TypeId} {ad : Addr} {v : Value} (h : fn.results = #[.cell p ty, .tmp q, .tmp r]) (hp : a.tmps.getD p undef = .pointer (some ad)) (hl : (loadVar ty ad).run P w = .ok v w) (hd : a.defers = []) (hR : R (.returned (.tuple #[v, a.tmps.getD q undef, a.tmps.getD r undef])) w) : bodyPost P fn R .ret a w := by
  refine bodyPost_ret (v := .tuple #[v, a.tmps.getD q undef, a.tmps.getD r undef]) ?_ hd hR
  have hp' : a.tmps[p]?.getD undef = .pointer (some ad) := by simpa using hp
  simp only [results, h]
  simp [hp', asAddr, hl]
end Go.Proofs.YtmldlkcgaepaaaaGreatDoor
