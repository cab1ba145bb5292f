/-
  Processors and instructions as plain data, and how they lie in memory.
  Contracts of the functions of layer 2 that tell which instructions are right, the program's: each returns a plain truth, for every instruction.
-/
import Derived.Test.YteegkhnikcioiaaGreatDoorMCMoves
import Derived.WalkKit
import Derived.ProofKit
import Derived.OpenShut
import Derived.ShutString
import Derived.OwnWalk
import Derived.Deep.QuietTactic
import Derived.Deep.MidRow
import Derived.Deep.RegionHeld3
import Derived.BigQuiet
import Derived.Lib.SmallJoins
import Derived.Handy
import Derived.Laws.BitsAllLaws
namespace Go.Proofs.YteegkhnikcioiaaGreatDoor.Cpu
open Go.ChangeShapes Go.WideShapes Go.ChangeAt Go.RowKit

structure Cp where
  R : Nat → Int
  H : Int
  N : Bool
  Z : Bool
  C : Bool
  V : Bool
  PC : Int
def Cp.cells (c : Cp) : Array Value := #[.int .u32 (c.R 0), .int .u32 (c.R 1), .int .u32 (c.R 2), .int .u32 (c.R 3), .int .u32 (c.R 4), .int .u32 (c.R 5), .int .u32 (c.R 6), .int .u32 (c.R 7), .int .u32 (c.R 8), .int .u32 (c.R 9), .int .u32 (c.R 10), .int .u32 (c.R 11), .int .u32 (c.R 12), .int .u32 (c.R 13), .int .u32 (c.R 14), .int .u32 (c.R 15), .int .u32 c.H, .bool c.N, .bool c.Z, .bool c.C, .bool c.V, .int .u32 c.PC]
theorem Cp.at16 (c : Cp) : c.cells[16]? = some (.int .u32 c.H) := rfl
theorem Cp.at17 (c : Cp) : c.cells[17]? = some (.bool c.N) := rfl
theorem Cp.at18 (c : Cp) : c.cells[18]? = some (.bool c.Z) := rfl
theorem Cp.at19 (c : Cp) : c.cells[19]? = some (.bool c.C) := rfl
theorem Cp.at20 (c : Cp) : c.cells[20]? = some (.bool c.V) := rfl
theorem Cp.at21 (c : Cp) : c.cells[21]? = some (.int .u32 c.PC) := rfl
theorem Cp.size (c : Cp) : c.cells.size = 22 := rfl
theorem Cp.atR (c : Cp) (i : Nat) (h : i < 16) : c.cells[i]? = some (.int .u32 (c.R i)) := by
  have : i = 0 ∨ i = 1 ∨ i = 2 ∨ i = 3 ∨ i = 4 ∨ i = 5 ∨ i = 6 ∨ i = 7 ∨ i = 8 ∨ i = 9 ∨ i = 10 ∨ i = 11 ∨ i = 12 ∨ i = 13 ∨ i = 14 ∨ i = 15 := by omega
  rcases this with rfl|rfl|rfl|rfl|rfl|rfl|rfl|rfl|rfl|rfl|rfl|rfl|rfl|rfl|rfl|rfl <;> rfl
def Cp.setR (c : Cp) (a : Nat) (x : Int) : Cp := { c with R := fun j => if j = a then x else c.R j }
theorem Cp.set16 (c : Cp) (x : Int) : c.cells.setIfInBounds 16 (.int .u32 x) = { c with H := x }.cells := rfl
theorem Cp.set17 (c : Cp) (x : Bool) : c.cells.setIfInBounds 17 (.bool x) = { c with N := x }.cells := rfl
theorem Cp.set18 (c : Cp) (x : Bool) : c.cells.setIfInBounds 18 (.bool x) = { c with Z := x }.cells := rfl
theorem Cp.set19 (c : Cp) (x : Bool) : c.cells.setIfInBounds 19 (.bool x) = { c with C := x }.cells := rfl
theorem Cp.set20 (c : Cp) (x : Bool) : c.cells.setIfInBounds 20 (.bool x) = { c with V := x }.cells := rfl
theorem Cp.set21 (c : Cp) (x : Int) : c.cells.setIfInBounds 21 (.int .u32 x) = { c with PC := x }.cells := rfl
theorem Cp.setAt (c : Cp) (a : Nat) (x : Int) (h : a < 16) : c.cells.setIfInBounds a (.int .u32 x) = (c.setR a x).cells := by
  have : a = 0 ∨ a = 1 ∨ a = 2 ∨ a = 3 ∨ a = 4 ∨ a = 5 ∨ a = 6 ∨ a = 7 ∨ a = 8 ∨ a = 9 ∨ a = 10 ∨ a = 11 ∨ a = 12 ∨ a = 13 ∨ a = 14 ∨ a = 15 := by omega
  rcases this with rfl|rfl|rfl|rfl|rfl|rfl|rfl|rfl|rfl|rfl|rfl|rfl|rfl|rfl|rfl|rfl <;> rfl
def Cp.zero : Cp := { R := fun _ => 0, H := 0, N := false, Z := false, C := false, V := false, PC := 0 }
theorem Cp.zero_fold : #[.int .u32 0, .int .u32 0, .int .u32 0, .int .u32 0, .int .u32 0, .int .u32 0, .int .u32 0, .int .u32 0, .int .u32 0, .int .u32 0, .int .u32 0, .int .u32 0, .int .u32 0, .int .u32 0, .int .u32 0, .int .u32 0, .int .u32 0, .bool false, .bool false, .bool false, .bool false, .int .u32 0] = Cp.zero.cells := rfl
structure Cp.Ok (c : Cp) : Prop where
  R : ∀ i, i < 16 → 0 ≤ c.R i ∧ c.R i ≤ 4294967295
  H : 0 ≤ c.H ∧ c.H ≤ 4294967295
  PC : 0 ≤ c.PC ∧ c.PC ≤ 4294967295

structure In where
  F : Int
  U : Bool
  V : Bool
  A : Int
  B : Int
  O : Int
  C : Int
  N : Int
def In.cells (i : In) : Array Value := #[.int .i64 i.F, .bool i.U, .bool i.V, .int .i64 i.A, .int .i64 i.B, .int .i64 i.O, .int .i64 i.C, .int .i64 i.N]
theorem In.at0 (c : In) : c.cells[0]? = some (.int .i64 c.F) := rfl
theorem In.at1 (c : In) : c.cells[1]? = some (.bool c.U) := rfl
theorem In.at2 (c : In) : c.cells[2]? = some (.bool c.V) := rfl
theorem In.at3 (c : In) : c.cells[3]? = some (.int .i64 c.A) := rfl
theorem In.at4 (c : In) : c.cells[4]? = some (.int .i64 c.B) := rfl
theorem In.at5 (c : In) : c.cells[5]? = some (.int .i64 c.O) := rfl
theorem In.at6 (c : In) : c.cells[6]? = some (.int .i64 c.C) := rfl
theorem In.at7 (c : In) : c.cells[7]? = some (.int .i64 c.N) := rfl
theorem In.size (c : In) : c.cells.size = 8 := rfl
theorem In.set0 (c : In) (x : Int) : c.cells.setIfInBounds 0 (.int .i64 x) = { c with F := x }.cells := rfl
theorem In.set1 (c : In) (x : Bool) : c.cells.setIfInBounds 1 (.bool x) = { c with U := x }.cells := rfl
theorem In.set2 (c : In) (x : Bool) : c.cells.setIfInBounds 2 (.bool x) = { c with V := x }.cells := rfl
theorem In.set3 (c : In) (x : Int) : c.cells.setIfInBounds 3 (.int .i64 x) = { c with A := x }.cells := rfl
theorem In.ne (c : In) : (c.cells = #[]) = False := by simp [In.cells]
theorem Cp.ne (c : Cp) : (c.cells = #[]) = False := by simp [Cp.cells]
theorem In.set4 (c : In) (x : Int) : c.cells.setIfInBounds 4 (.int .i64 x) = { c with B := x }.cells := rfl
theorem In.set5 (c : In) (x : Int) : c.cells.setIfInBounds 5 (.int .i64 x) = { c with O := x }.cells := rfl
theorem In.set6 (c : In) (x : Int) : c.cells.setIfInBounds 6 (.int .i64 x) = { c with C := x }.cells := rfl
theorem In.set7 (c : In) (x : Int) : c.cells.setIfInBounds 7 (.int .i64 x) = { c with N := x }.cells := rfl
def In.zero : In := { F := 0, U := false, V := false, A := 0, B := 0, O := 0, C := 0, N := 0 }
theorem In.fold (f : Int) (u v : Bool) (a b o c n : Int) : #[.int .i64 f, .bool u, .bool v, .int .i64 a, .int .i64 b, .int .i64 o, .int .i64 c, .int .i64 n] = ({ F := f, U := u, V := v, A := a, B := b, O := o, C := c, N := n } : In).cells := rfl
theorem In.zero_fold : #[.int .i64 0, .bool false, .bool false, .int .i64 0, .int .i64 0, .int .i64 0, .int .i64 0, .int .i64 0] = In.zero.cells := rfl

/-! How a whole struct is loaded: by its block, not cell by cell. -/
def rowAt (w : World) (b : Nat) : Option (Array Value) := match w.heap[b]? with
  | some (.cells cs _ _) => some cs
  | _ => none
theorem rowAt_new (w : World) (X : Array Value) (t : TypeId) (fr : Nat × Nat) : rowAt (w.alloc (.cells X t fr)) w.heap.size = some X := by
  have : (w.alloc (.cells X t fr)).heap[w.heap.size]? = some (.cells X t fr) := by
    show (w.heap.push _)[w.heap.size]? = _
    simp
  simp only [rowAt, this]
theorem rowAt_old (w : World) (o : Obj) (b : Nat) (h : b ≠ w.heap.size) : rowAt (w.alloc o) b = rowAt w b := by
  have : (w.alloc o).heap[b]? = w.heap[b]? := by
    show (w.heap.push _)[b]? = _
    rw [Array.getElem?_push]; simp [h]
  simp only [rowAt, this]
theorem rowAt_drew (w : World) (b : Nat) : rowAt w.drew b = rowAt w b := rfl
theorem rowAt_drewN (w : World) (n b : Nat) : rowAt (w.drewN n) b = rowAt w b := rfl
theorem rowAt_cell {w : World} {b : Nat} {X : Array Value} (h : rowAt w b = some X) (i : Nat) : w.cell? ⟨b, i, none⟩ = X[i]? := by
  unfold rowAt at h
  split at h
  · rename_i hb
    cases h
    simp [World.cell?, hb]
  · cases h
theorem rowAt_below {B : Nat} {w w' : World} (hb : Below B w w') (b : Nat) (h : b < B) : rowAt w' b = rowAt w b := by
  unfold rowAt; rw [hb.block b h]
def stuckLoad (t : TypeId) (a : Addr) : Sem Value := loadVar t a
def roomAt (w : World) (b n : Nat) : Bool := match w.heap[b]? with
  | some (.cells Y _ fr) => Y.size == n && fr == (0, 0)
  | _ => false
theorem roomAt_new (w : World) (X : Array Value) (t : TypeId) (n k : Nat) (hk : k = w.heap.size) (h : X.size = n) : roomAt (w.alloc (.cells X t)) k n = true := by
  subst hk
  have : (w.alloc (.cells X t)).heap[w.heap.size]? = some (.cells X t) := by
    show (w.heap.push _)[w.heap.size]? = _
    simp
  simp only [roomAt, this]; simp [h]
theorem roomAt_old (w : World) (o : Obj) (b n : Nat) (h : b < w.heap.size) : roomAt (w.alloc o) b n = roomAt w b n := by
  have : (w.alloc o).heap[b]? = w.heap[b]? := by
    show (w.heap.push _)[b]? = _
    rw [Array.getElem?_push]; simp [Nat.ne_of_lt h]
  simp only [roomAt, this]
theorem roomAt_drew (w : World) (b n : Nat) : roomAt w.drew b n = roomAt w b n := rfl
theorem roomAt_drewN (w : World) (k b n : Nat) : roomAt (w.drewN k) b n = roomAt w b n := rfl
theorem roomAt_below {B : Nat} {w w' : World} (hb : Below B w w') (b n : Nat) (h : b < B) : roomAt w' b n = roomAt w b n := by
  unfold roomAt; rw [hb.block b h]
theorem room_there {w : World} {b n : Nat} (h : roomAt w b n = true) : w.there b 0 n := by
  unfold roomAt at h
  split at h
  · rename_i Y t fr hb
    simp only [Bool.and_eq_true, beq_iff_eq] at h
    obtain ⟨h1, h2⟩ := h
    subst h2
    intro j hj
    refine ⟨?_, ?_⟩
    · rw [Nat.zero_add, show w.cell? ⟨b, j, none⟩ = Y[j]? by simp [World.cell?, hb], Array.getElem?_eq_getElem (by omega)]; rfl
    · simp [World.frozen?, hb]
  · cases h
theorem putRow_is (w : World) (b : Nat) (X : Array Value) : ∃ w' : World, w' = w.setCells b 0 X.toList := ⟨_, rfl⟩
noncomputable def putRow (w : World) (b : Nat) (X : Array Value) : World := Classical.choose (putRow_is w b X)
theorem putRow_eq (w : World) (b : Nat) (X : Array Value) : putRow w b X = w.setCells b 0 X.toList := Classical.choose_spec (putRow_is w b X)
def putList : Array Value → Nat → List Value → Array Value
  | Y, _, [] => Y
  | Y, o, v :: r => putList (Y.setIfInBounds o v) (o + 1) r
theorem setCells_new (w : World) (t : TypeId) : ∀ (vs : List Value) (o : Nat) (Y : Array Value), (w.alloc (.cells Y t)).setCells w.heap.size o vs = w.alloc (.cells (putList Y o vs) t)
  | [], _, _ => rfl
  | v :: r, o, Y => by
    rw [World.setCells, World.setCell_alloc_new, setCells_new w t r, putList]
theorem putList_size : ∀ (vs : List Value) (o : Nat) (Y : Array Value), (putList Y o vs).size = Y.size
  | [], _, _ => rfl
  | v :: r, o, Y => by rw [putList, putList_size r]; simp
theorem putList_at : ∀ (vs : List Value) (o : Nat) (Y : Array Value) (k : Nat), k < Y.size → (putList Y o vs)[k]? = if o ≤ k ∧ k < o + vs.length then vs[k - o]? else Y[k]?
  | [], o, Y, k, _ => by simp [putList]; intros; omega
  | v :: r, o, Y, k, hk => by
    rw [putList, putList_at r (o + 1) _ k (by simpa using hk)]
    by_cases h1 : o + 1 ≤ k ∧ k < o + 1 + r.length
    · rw [if_pos h1, if_pos (by simp; omega), show k - o = (k - (o + 1)) + 1 by omega]; simp
    · rw [if_neg h1]
      by_cases h2 : k = o
      · subst h2; rw [if_pos (by simp)]; simp [hk]
      · rw [if_neg (by simp; omega)]; simp [Ne.symm h2]
theorem putList_all (X Y : Array Value) (h : Y.size = X.size) : putList Y 0 X.toList = X := by
  apply Array.ext_getElem?
  intro k
  by_cases hk : k < Y.size
  · rw [putList_at _ _ _ _ hk, if_pos (by simp; omega)]; simp
  · rw [Array.getElem?_eq_none (by rw [putList_size]; omega), Array.getElem?_eq_none (by omega)]
theorem putRow_new (w : World) (t : TypeId) (X Y : Array Value) (k : Nat) (hk : k = w.heap.size) (h : Y.size = X.size) : putRow (w.alloc (.cells Y t)) k X = w.alloc (.cells X t) := by
  subst hk
  rw [putRow_eq, setCells_new, putList_all X Y h]
theorem putCpu_new (w : World) (t : TypeId) (c d : Cp) (k : Nat) (hk : k = w.heap.size) : putRow (w.alloc (.cells d.cells t)) k c.cells = w.alloc (.cells c.cells t) := putRow_new w t _ _ k hk rfl
theorem putIn_new (w : World) (t : TypeId) (c d : In) (k : Nat) (hk : k = w.heap.size) : putRow (w.alloc (.cells d.cells t)) k c.cells = w.alloc (.cells c.cells t) := putRow_new w t _ _ k hk rfl
theorem roomCpu_new (w : World) (c : Cp) (t : TypeId) (k : Nat) (hk : k = w.heap.size) : roomAt (w.alloc (.cells c.cells t)) k 22 = true := roomAt_new w _ t _ k hk rfl
theorem roomIn_new (w : World) (c : In) (t : TypeId) (k : Nat) (hk : k = w.heap.size) : roomAt (w.alloc (.cells c.cells t)) k 8 = true := roomAt_new w _ t _ k hk rfl
theorem rowAt_at (w : World) (X : Array Value) (t : TypeId) (fr : Nat × Nat) (k : Nat) (hk : k = w.heap.size) : rowAt (w.alloc (.cells X t fr)) k = some X := by subst hk; exact rowAt_new w X t fr
theorem setCells_past (o : Obj) (b : Nat) : ∀ (vs : List Value) (k : Nat) (w : World), b < w.heap.size → (w.alloc o).setCells b k vs = (w.setCells b k vs).alloc o
  | [], _, _, _ => rfl
  | v :: r, k, w, h => by
    rw [World.setCells, World.setCells, World.setCell_alloc_past _ _ _ _ h, setCells_past o b r (k + 1) _ (by simpa using h)]
theorem putRow_past (w : World) (o : Obj) (b : Nat) (X : Array Value) (h : b < w.heap.size) : putRow (w.alloc o) b X = (putRow w b X).alloc o := by rw [putRow_eq, putRow_eq]; exact setCells_past o b _ _ _ h
theorem setCells_drew (b : Nat) : ∀ (vs : List Value) (k : Nat) (w : World), w.drew.setCells b k vs = (w.setCells b k vs).drew
  | [], _, _ => rfl
  | v :: r, k, w => by rw [World.setCells, World.setCells, World.setCell_drew, setCells_drew b r]
theorem alloc_drewN (w : World) (n : Nat) (o : Obj) : (w.drewN n).alloc o = (w.alloc o).drewN n := rfl
theorem setCell_drewN (w : World) (n : Nat) (a : Addr) (v : Value) : (w.drewN n).setCell a v = (w.setCell a v).drewN n := rfl
theorem setCells_drewN (n b : Nat) : ∀ (vs : List Value) (k : Nat) (w : World), (w.drewN n).setCells b k vs = (w.setCells b k vs).drewN n
  | [], _, _ => rfl
  | v :: r, k, w => by rw [World.setCells, World.setCells, setCell_drewN, setCells_drewN n b r]
theorem putRow_drewN (w : World) (n b : Nat) (X : Array Value) : putRow (w.drewN n) b X = (putRow w b X).drewN n := by rw [putRow_eq, putRow_eq]; exact setCells_drewN n b _ _ _
theorem below_setCells {B : Nat} {a : World} (b : Nat) (hb : B ≤ b) : ∀ (vs : List Value) (k : Nat) (w : World), Below B a w → Below B a (w.setCells b k vs)
  | [], _, _, h => h
  | v :: r, k, w, h => by rw [World.setCells]; exact below_setCells b hb r (k + 1) _ (h.setCell (by simpa using hb) _)
theorem below_put {B : Nat} {a w : World} (h : Below B a w) (b : Nat) (hb : B ≤ b) (X : Array Value) : Below B a (putRow w b X) := by
  rw [putRow_eq]; exact below_setCells b hb _ _ _ h
theorem setCells_heap {b : Nat} {t : TypeId} {fr : Nat × Nat} : ∀ (vs : List Value) (k : Nat) (w : World) (Y : Array Value), w.heap[b]? = some (.cells Y t fr) → (w.setCells b k vs).heap[b]? = some (.cells (putList Y k vs) t fr)
  | [], _, _, _, h => h
  | v :: r, k, w, Y, h => by rw [World.setCells, putList]; exact setCells_heap r (k + 1) _ _ (Go.Joins.block_setCell h v)
theorem rowAt_put {w : World} {b : Nat} {X : Array Value} (h : roomAt w b X.size = true) : rowAt (putRow w b X) b = some X := by
  unfold roomAt at h
  split at h
  · rename_i Y t fr hb
    simp only [Bool.and_eq_true, beq_iff_eq] at h
    rw [putRow_eq]
    unfold rowAt
    rw [setCells_heap _ _ _ _ hb, putList_all X Y h.1]
  · cases h
theorem size_setCells (b : Nat) : ∀ (vs : List Value) (k : Nat) (w : World), (w.setCells b k vs).heap.size = w.heap.size
  | [], _, _ => rfl
  | v :: r, k, w => by rw [World.setCells, size_setCells b r]; simp
theorem size_put (w : World) (b : Nat) (X : Array Value) : (putRow w b X).heap.size = w.heap.size := by rw [putRow_eq]; exact size_setCells b _ _ _
theorem rowCpu_put (w : World) (b : Nat) (c : Cp) (h : roomAt w b 22 = true) : rowAt (putRow w b c.cells) b = some c.cells := rowAt_put h
theorem rowIn_put (w : World) (b : Nat) (c : In) (h : roomAt w b 8 = true) : rowAt (putRow w b c.cells) b = some c.cells := rowAt_put h
theorem putRow_drew (w : World) (b : Nat) (X : Array Value) : putRow w.drew b X = (putRow w b X).drew := by rw [putRow_eq, putRow_eq]; exact setCells_drew b _ _ _

def loadCpu (a : Addr) : Sem Value := loadVar 45 a
theorem loadCpu_seal (a : Addr) : loadVar 45 a = loadCpu a := rfl
theorem Tryz.sizeCpu : (Tryz.prog.info? 45).map (·.size) = some 22 := by kernel_rfl
theorem loadCpu_run (w : World) (b : Nat) : (loadCpu ⟨b, 0, none⟩).run Tryz.prog w = (match rowAt w b with
    | some X => if X.size = 22 then .ok (.agg X) w else (loadCpu ⟨b, 0 + 0, none⟩).run Tryz.prog w
    | none => (loadCpu ⟨b, 0 + 0, none⟩).run Tryz.prog w) := by
  split
  · rename_i X hX
    split
    · rename_i hs
      have hl : X.toList.length = 22 := by simpa using hs
      have := run_loadVar_mid (P := Tryz.prog) w b 0 45 X.toList _ (fun j v hv => by rw [Nat.zero_add, rowAt_cell hX]; simpa using hv) Tryz.underlying45 rfl (by rw [hl]; exact Tryz.sizeCpu)
      simpa [loadCpu] using this
    · rfl
  · rfl
def storeCpu (a : Addr) (v : Value) : Sem Unit := storeVar 45 a v
theorem storeCpu_seal (a : Addr) (v : Value) : storeVar 45 a v = storeCpu a v := rfl
theorem storeCpu_run (w : World) (b : Nat) (c : Cp) (h : roomAt w b 22 = true) : (storeCpu ⟨b, 0, none⟩ (.agg c.cells)).run Tryz.prog w = .ok () (putRow w b c.cells) := by
  rw [putRow_eq]; exact run_storeVar_mid w b 0 45 c.cells (room_there h) Tryz.sizeCpu (by simp [Cp.cells, Value.oneCell'])

def loadIn (a : Addr) : Sem Value := loadVar 123 a
theorem loadIn_seal (a : Addr) : loadVar 123 a = loadIn a := rfl
theorem Tryz.sizeIn : (Tryz.prog.info? 123).map (·.size) = some 8 := by kernel_rfl
theorem loadIn_run (w : World) (b : Nat) : (loadIn ⟨b, 0, none⟩).run Tryz.prog w = (match rowAt w b with
    | some X => if X.size = 8 then .ok (.agg X) w else (loadIn ⟨b, 0 + 0, none⟩).run Tryz.prog w
    | none => (loadIn ⟨b, 0 + 0, none⟩).run Tryz.prog w) := by
  split
  · rename_i X hX
    split
    · rename_i hs
      have hl : X.toList.length = 8 := by simpa using hs
      have := run_loadVar_mid (P := Tryz.prog) w b 0 123 X.toList _ (fun j v hv => by rw [Nat.zero_add, rowAt_cell hX]; simpa using hv) Tryz.underlying123 rfl (by rw [hl]; exact Tryz.sizeIn)
      simpa [loadIn] using this
    · rfl
  · rfl
def storeIn (a : Addr) (v : Value) : Sem Unit := storeVar 123 a v
theorem storeIn_seal (a : Addr) (v : Value) : storeVar 123 a v = storeIn a v := rfl
theorem storeIn_run (w : World) (b : Nat) (c : In) (h : roomAt w b 8 = true) : (storeIn ⟨b, 0, none⟩ (.agg c.cells)).run Tryz.prog w = .ok () (putRow w b c.cells) := by
  rw [putRow_eq]; exact run_storeVar_mid w b 0 123 c.cells (room_there h) Tryz.sizeIn (by simp [In.cells, Value.oneCell'])

theorem loadCpu_row {w : World} {b : Nat} {c : Cp} (h : rowAt w b = some c.cells) : (loadVar 45 ⟨b, 0, none⟩).run Tryz.prog w = .ok (.agg c.cells) w := by
  rw [loadCpu_seal, loadCpu_run, h]; simp [Cp.size]
theorem loadIn_row {w : World} {b : Nat} {c : In} (h : rowAt w b = some c.cells) : (loadVar 123 ⟨b, 0, none⟩).run Tryz.prog w = .ok (.agg c.cells) w := by
  rw [loadIn_seal, loadIn_run, h]; simp [In.size]
theorem ret_cell1 {P : Program} {fn : Func} {R : Ending → World → Prop} {a : Act} {w : World} {p : Tmp} {ty : TypeId} {ad : Addr} {v : Value} (h : fn.results = #[.cell p ty]) (hp : a.tmps.getD p undef = .pointer (some ad)) (hl : (loadVar ty ad).run P w = .ok v w) (hd : a.defers = []) (hR : R (.returned v) w) : bodyPost P fn R .ret a w := by
  refine bodyPost_ret (v := v) ?_ hd hR
  have hp' : a.tmps[p]?.getD undef = .pointer (some ad) := by simpa using hp
  simp only [results, h]
  simp [hp', asAddr, hl]
theorem ret_cell_tmp {P : Program} {fn : Func} {R : Ending → World → Prop} {a : Act} {w : World} {p q : Tmp} {ty : TypeId} {ad : Addr} {v : Value} (h : fn.results = #[.cell p ty, .tmp q]) (hp : a.tmps.getD p undef = .pointer (some ad)) (hl : (loadVar ty ad).run P w = .ok v w) (hd : a.defers = []) (hR : R (.returned (.tuple #[v, a.tmps.getD q undef])) w) : bodyPost P fn R .ret a w := by
  refine bodyPost_ret (v := .tuple #[v, a.tmps.getD q undef]) ?_ hd hR
  have hp' : a.tmps[p]?.getD undef = .pointer (some ad) := by simpa using hp
  simp only [results, h]
  simp [hp', asAddr, hl]
theorem ret_cell_tmp2 {P : Program} {fn : Func} {R : Ending → World → Prop} {a : Act} {w : World} {p q r : Tmp} {ty : TypeId} {ad : Addr} {v : Value} (h : fn.results = #[.cell p ty, .tmp q, .tmp r]) (hp : a.tmps.getD p undef = .pointer (some ad)) (hl : (loadVar ty ad).run P w = .ok v w) (hd : a.defers = []) (hR : R (.returned (.tuple #[v, a.tmps.getD q undef, a.tmps.getD r undef])) w) : bodyPost P fn R .ret a w := by
  refine bodyPost_ret (v := .tuple #[v, a.tmps.getD q undef, a.tmps.getD r undef]) ?_ hd hR
  have hp' : a.tmps[p]?.getD undef = .pointer (some ad) := by simpa using hp
  simp only [results, h]
  simp [hp', asAddr, hl]
end Go.Proofs.YteegkhnikcioiaaGreatDoor.Cpu

namespace Go.Proofs.YteegkhnikcioiaaGreatDoor.Cpu
set_option linter.unusedSimpArgs false
open Go.ChangeShapes Go.WideShapes Go.ChangeAt Go.RowKit
attribute [local go_sem ↓] loadCpu_seal storeCpu_seal loadIn_seal storeIn_seal
attribute [local go_sem] loadCpu_run storeCpu_run loadIn_run storeIn_run rowAt_at rowAt_old rowAt_drew rowAt_drewN roomCpu_new roomIn_new roomAt_old roomAt_drew roomAt_drewN putCpu_new putIn_new Cp.zero_fold In.fold putRow_past rowCpu_put rowIn_put size_put putRow_drew putRow_drewN alloc_drewN setCell_drewN Cp.at16 Cp.at17 Cp.at18 Cp.at19 Cp.at20 Cp.at21 Cp.size Cp.set16 Cp.set17 Cp.set18 Cp.set19 Cp.set20 Cp.set21 In.at0 In.at1 In.at2 In.at3 In.at4 In.at5 In.at6 In.at7 In.size In.set0 In.set1 In.set2 In.set3 In.ne Cp.ne In.set4 In.set5 In.set6 In.set7

theorem bdrewN {B : Nat} {a w : World} (h : Below B a w) (n : Nat) : Below B a (w.drewN n) := ⟨h.os, h.tape, h.output, h.size, h.block⟩
theorem and_mask (x : Int) (k : Nat) (hk : k ≤ 31) (h0 : 0 ≤ x) (h1 : x ≤ 4294967295) : bits .and .u32 x (2 ^ k - 1) = x % 2 ^ k := by
  have hp : (2 : Nat) ^ k ≤ 2 ^ 31 := Nat.pow_le_pow_right (by omega) hk
  have hp1 : 1 ≤ (2 : Nat) ^ k := Nat.one_le_two_pow
  have e : ((2 : Int) ^ k - 1) = ((2 ^ k - 1 : Nat) : Int) := by
    rw [Int.natCast_sub hp1]; simp
  rw [e, u32_and x _ h0 (by omega) (by omega) (by omega), Int.toNat_natCast, Nat.and_two_pow_sub_one_eq_mod]
  obtain ⟨n, rfl⟩ := Int.eq_ofNat_of_zero_le h0
  simp

def fld (x : Int) (at_ k : Nat) : Int := x / 2 ^ at_ % 2 ^ k
theorem fld_bd (x : Int) (at_ k : Nat) : 0 ≤ fld x at_ k ∧ fld x at_ k < 2 ^ k := by
  have hp : (0 : Int) < 2 ^ k := Int.pow_pos (by omega)
  unfold fld
  exact ⟨Int.emod_nonneg _ (by omega), Int.emod_lt_of_pos _ hp⟩
theorem shifted_bd (x : Int) (at_ : Nat) (h0 : 0 ≤ x) (h1 : x ≤ 4294967295) : 0 ≤ x / 2 ^ at_ ∧ x / 2 ^ at_ ≤ 4294967295 := by
  have hp : (0 : Int) < 2 ^ at_ := Int.pow_pos (by omega)
  have := Int.ediv_le_self (2 ^ at_) h0
  exact ⟨Int.ediv_nonneg h0 (by omega), by omega⟩
theorem field_any (x : Int) (at_ k : Nat) (w : World) (h0 : 0 ≤ x) (h1 : x ≤ 4294967295) (ha : at_ ≤ 31) (hk : k ≤ 24) :
    Calls Tryz.prog 122 #[.int .u32 x, .int .i64 at_, .int .i64 k] w fun e w' => e = .returned (.int .u32 (fld x at_ k)) ∧ ∃ n, w' = w.drewN n := by
  have hm := and_mask (x / 2 ^ at_) k (by omega) (shifted_bd x at_ h0 h1).1 (shifted_bd x at_ h0 h1).2
  have H : Hid (bits .and .u32 (x / 2 ^ at_) (2 ^ k - 1) = fld x at_ k) := hm
  clear hm
  go_enter Tryz.func122, Tryz.ntmps122
  go_wp2
  go_quiet (fail)
  go_wp2
  go_ret
  refine ⟨ret_int ?_, nq, rfl⟩
  rw [← H.out]
  have hp : (2 : Int) ^ k ≤ 2 ^ 24 := by
    have : (2 : Nat) ^ k ≤ 2 ^ 24 := Nat.pow_le_pow_right (by omega) hk
    exact_mod_cast this
  have hp1 : (1 : Int) ≤ 2 ^ k := Int.pow_pos (by omega)
  congr 1
  omega

def fldI (x a k : Int) : Int := x / 2 ^ a.toNat % 2 ^ k.toNat
theorem field_at (x a k : Int) (w : World) (h0 : 0 ≤ x) (h1 : x ≤ 4294967295) (a0 : 0 ≤ a) (ha : a ≤ 31) (k0 : 0 ≤ k) (hk : k ≤ 24) :
    Calls Tryz.prog 122 #[.int .u32 x, .int .i64 a, .int .i64 k] w fun e w' => e = .returned (.int .u32 (fldI x a k)) ∧ ∃ n, w' = w.drewN n := by
  have := field_any x a.toNat k.toNat w h0 h1 (by omega) (by omega)
  rw [Int.toNat_of_nonneg a0, Int.toNat_of_nonneg k0] at this
  exact this
theorem fldI_bd (x a k : Int) : 0 ≤ fldI x a k ∧ fldI x a k < 2 ^ k.toNat := fld_bd x a.toNat k.toNat
def regB (a : Int) : Bool := decide (0 ≤ a ∧ a < 16)
theorem isReg_any (a : Int) (w : World) : Calls Tryz.prog 124 #[.int .i64 a] w fun e w' => e = .returned (.bool (regB a)) ∧ w' = w := by
  go_enter Tryz.func124, Tryz.ntmps124
  go_wp2
  all_goals go_ret
  all_goals exact ⟨ret_bool (by unfold regB; rw [Bool.eq_iff_iff]; simp; try omega), rfl⟩
def fit20 (a : Int) : Bool := decide (-524288 ≤ a ∧ a ≤ 524287)
def fit24 (a : Int) : Bool := decide (-8388608 ≤ a ∧ a ≤ 8388607)
theorem fits20_any (a : Int) (w : World) : Calls Tryz.prog 126 #[.int .i64 a, .int .i64 20] w fun e w' => e = .returned (.bool (fit20 a)) ∧ w' = w := by
  go_enter Tryz.func126, Tryz.ntmps126
  go_wp2
  all_goals go_ret
  all_goals exact ⟨ret_bool (by unfold fit20; rw [Bool.eq_iff_iff]; simp; try omega), rfl⟩
theorem fits24_any (a : Int) (w : World) : Calls Tryz.prog 126 #[.int .i64 a, .int .i64 24] w fun e w' => e = .returned (.bool (fit24 a)) ∧ w' = w := by
  go_enter Tryz.func126, Tryz.ntmps126
  go_wp2
  all_goals go_ret
  all_goals exact ⟨ret_bool (by unfold fit24; rw [Bool.eq_iff_iff]; simp; try omega), rfl⟩
def wayI (u v : Bool) : Int := if u then (if v then 8 else 4) else (if v then 2 else 1)
theorem way_any (i : In) (w : World) : Calls Tryz.prog 99 #[.agg i.cells] w fun e w' => e = .returned (.int .i64 (wayI i.U i.V)) ∧ Below w.heap.size w w' := by
  go_enter Tryz.func99, Tryz.ntmps99
  go_wp2
  all_goals go_ret
  all_goals refine ⟨ret_int ?_, (Below.refl _ _).alloc (Nat.le_refl _) _⟩
  all_goals (unfold wayI; simp_all)
def targetB (i : In) : Bool := if i.U then decide (i.C = 0) && fit24 i.N else decide (i.N = 0)
theorem rightTarget_any (i : In) (w : World) : Calls Tryz.prog 127 #[.agg i.cells] w fun e w' => e = .returned (.bool (targetB i)) ∧ Below w.heap.size w w' := by
  go_enter Tryz.func127, Tryz.ntmps127
  go_wp2_with (go_at_call 126; refine (fits24_any _ _).mono ?_; rintro e w' ⟨rfl, hw⟩; obtain rfl := hw.symm; clear hw)
  all_goals go_ret
  all_goals refine ⟨ret_bool ?_, (Below.refl _ _).alloc (Nat.le_refl _) _⟩
  all_goals (unfold targetB; rw [Bool.eq_iff_iff]; simp_all)
def waysZ (o f : Int) : Int := if f = 0 then (if o = 0 then 13 else if o ≤ 7 then 1 else if o ≤ 10 then 5 else if o = 11 then 1 else 0) else (if o = 0 then 7 else if o ≤ 7 then 3 else if o ≤ 10 then 15 else if o = 11 then 3 else if o = 15 then 1 else 0)
/-- The table lies in its block as the program's text lays it. -/
structure Ways (w : World) : Prop where
  big : 0 < w.heap.size
  at_ : ∀ o f : Int, 0 ≤ o → o < 16 → 0 ≤ f → f < 2 → w.cell? ⟨0, o.toNat * 2 + f.toNat, none⟩ = some (.int .i64 (waysZ o f))
theorem Ways.below {B : Nat} {w w' : World} (h : Ways w) (hb : Below B w w') (hB : 0 < B) : Ways w' :=
  ⟨Nat.lt_of_lt_of_le h.big hb.size, fun o f a b c d => (hb.cell (p := ⟨0, _, none⟩) hB).trans (h.at_ o f a b c d)⟩
def ropB (i : In) : Bool := decide (0 ≤ i.O ∧ i.O < 16) && !(bits .and .i64 (waysZ i.O i.F) (wayI i.U i.V) == 0) && (if i.O = 0 then decide (i.B = 0) && (!i.U || decide (i.C = 0)) else if i.O = 15 then decide (i.A = 0) && decide (i.B = 0) else true)
theorem bcell {W w1 : World} (hb : Below W.heap.size W w1) : (∀ b o, b < W.heap.size → w1.cell? ⟨b, o, none⟩ = W.cell? ⟨b, o, none⟩) ∧ (∀ b, b < W.heap.size → rowAt w1 b = rowAt W b) ∧ (∀ b n, b < W.heap.size → roomAt w1 b n = roomAt W b n) ∧ (∀ b o, b < W.heap.size → w1.frozen? ⟨b, o, none⟩ = W.frozen? ⟨b, o, none⟩) :=
  ⟨fun b o h => hb.cell (p := ⟨b, o, none⟩) h, fun b h => rowAt_below hb b h, fun b n h => roomAt_below hb b n h, fun b o h => hb.frozen (p := ⟨b, o, none⟩) h⟩
theorem rightOperation_any (i : In) (w : World) (hw : Ways w) (hf : 0 ≤ i.F ∧ i.F < 2) : Calls Tryz.prog 125 #[.agg i.cells] w fun e w' => e = .returned (.bool (ropB i)) ∧ Below w.heap.size w w' := by
  have hbig := hw.big
  by_cases ho : 0 ≤ i.O ∧ i.O < 16
  · have ht := hw.at_ i.O i.F ho.1 ho.2 hf.1 hf.2
    obtain ⟨f0, f1⟩ := hf
    obtain ⟨o0, o1⟩ := ho
    have od : decide (i.O < 0) = false := by simpa using o0
    have oe : decide (16 ≤ i.O) = false := by simpa using o1
    clear hw
    go_enter Tryz.func125, Tryz.ntmps125
    go_wp2
    go_region_held3 (fun w' => rowAt w' w.heap.size = some i.cells ∧ (∀ j, w'.cell? ⟨w.heap.size, j, none⟩ = i.cells[j]?) ∧ w'.cell? ⟨0, i.O.toNat * 2 + i.F.toNat, none⟩ = some (.int .i64 (waysZ i.O i.F))) (simp [*, rowAt_at, rowAt_old, rowAt_drew, rowAt_drewN, World.cell?_alloc_some, World.cell?_setCell_far]) (first | (go_at_call 99; refine (way_any i _).mono ?_; rintro e w1 ⟨rfl, hb⟩; obtain ⟨hc, hr, hm, hz⟩ := bcell hb))
    rename_i hh
    obtain ⟨h1, h2, h3⟩ := hh
    have hbb : Below w.heap.size w w1 := ((Below.refl _ _).alloc (Nat.le_refl _) _).drew.trans (hb.mono (by simp))
    clear hb h3 ht h1
    go_wp2
    all_goals go_ret
    all_goals refine ⟨ret_bool ?_, hbb⟩
    all_goals (clear hc hr hm hz h2; unfold ropB; rw [Bool.eq_iff_iff]; simp_all)
  · have hd : ropB i = false := by unfold ropB; simp [ho]
    obtain ⟨f0, f1⟩ := hf
    clear hw
    rw [hd]
    by_cases o0 : i.O < 0
    · have od : decide (i.O < 0) = true := by simpa using o0
      go_enter Tryz.func125, Tryz.ntmps125
      go_wp2
      go_quiet (fail)
      go_wp2
      go_ret
      exact ⟨rfl, bdrewN ((Below.refl _ _).alloc (Nat.le_refl _) _) _⟩
    · have od : decide (i.O < 0) = false := by simpa using o0
      have oe : decide (16 ≤ i.O) = true := by simp; omega
      go_enter Tryz.func125, Tryz.ntmps125
      go_wp2
      go_quiet (fail)
      go_wp2
      go_ret
      exact ⟨rfl, bdrewN ((Below.refl _ _).alloc (Nat.le_refl _) _) _⟩
theorem Ways.alloc {w : World} (h : Ways w) (o : Obj) : Ways (w.alloc o) := h.below ((Below.refl _ _).alloc (Nat.le_refl _) _) h.big
theorem Ways.drewN {w : World} (h : Ways w) (n : Nat) : Ways (w.drewN n) := ⟨h.big, h.at_⟩
theorem Ways.drew {w : World} (h : Ways w) : Ways w.drew := ⟨h.big, h.at_⟩
def rightB (i : In) : Bool := regB i.A && (regB i.B && (regB i.C && (if i.F = 0 then decide (i.N = 0) && ropB i else if i.F = 1 then decide (i.C = 0) && (decide (0 ≤ i.N) && (decide (i.N < 65536) && ropB i)) else if i.F = 2 then decide (i.C = 0) && (decide (i.O = 0) && fit20 i.N) else if i.F = 3 then decide (i.B = 0) && (decide (i.O = 0) && targetB i) else false)))
theorem right_any (i : In) (w : World) (hw : Ways w) : Calls Tryz.prog 97 #[.agg i.cells] w fun e w' => e = .returned (.bool (rightB i)) ∧ Below w.heap.size w w' := by
  have hW := hw.alloc (.cells i.cells 123)
  have HW : Hid (Ways (w.alloc (.cells i.cells 123))) := hW
  clear hW hw
  go_enter Tryz.func97, Tryz.ntmps97
  go_wp2_with (first | (go_at_call 124; refine (isReg_any _ _).mono ?_; rintro e w' ⟨rfl, hx⟩; obtain rfl := hx.symm; clear hx) | (go_at_call 126; refine (fits20_any _ _).mono ?_; rintro e w' ⟨rfl, hx⟩; obtain rfl := hx.symm; clear hx) | (go_at_call 125; refine (rightOperation_any i _ HW.out (by first | (have hq := beq_iff_eq.1 (by assumption : (i.F == 0) = true); omega) | (have hq := beq_iff_eq.1 (by assumption : (i.F == 1) = true); omega))).mono ?_; rintro e w1 ⟨rfl, hb⟩) | (go_at_call 127; refine (rightTarget_any i _).mono ?_; rintro e w1 ⟨rfl, hb⟩))
  all_goals go_ret
  all_goals refine ⟨ret_bool ?_, ?_⟩
  all_goals first | exact (Below.refl _ _).alloc (Nat.le_refl _) _ | exact ((Below.refl _ _).alloc (Nat.le_refl _) _).trans (hb.mono (by simp)) | skip
  all_goals (clear HW; unfold rightB; rw [Bool.eq_iff_iff]; simp_all)
  all_goals (intros; omega)
end Go.Proofs.YteegkhnikcioiaaGreatDoor.Cpu
