/-
  Sectors as plain data, and how they lie in memory.
  What a disk asks of a request; how many sectors a disk may have.
  The questions that a write has to pass, one behind the other.
  Rows of sectors' places, copied; a sector of given bytes; a new disk.
-/
import Derived.Test.YteegkhnikcioiaaGreatDoorChecked
import Derived.Test.YteegkhnikcioiaaGreatDoorRows
import Derived.WalkKit
import Derived.ProofKit
import Derived.OpenShut
import Derived.ShutString
import Derived.OwnWalk
import Derived.Deep.QuietTactic
import Derived.Deep.MidRow
import Derived.Deep.WholeRow
import Derived.Deep.RegionHeld3
import Derived.Deep.AppendLies
import Derived.DeepKeys
import Derived.BigQuiet
import Derived.Lib.SmallJoins
import Derived.Handy
import Derived.Lib.SliceRun
namespace Go.Proofs.YteegkhnikcioiaaGreatDoor
open Go.ChangeShapes Go.WideShapes Go.ChangeAt Go.RowKit

/-- A row of bytes that may be read: none, or so many cells. -/
def RdB (w : World) (a : Option Addr) (len : Nat) (f : Nat → Int) : Prop :=
  len ≤ maxLen ∧ (len = 0 ∨ ∃ b off, a = some ⟨b, off, none⟩ ∧ ∀ i, i < len → w.cell? ⟨b, off + i, none⟩ = some (.int .u8 (f i)) ∧ 0 ≤ f i ∧ f i ≤ 255)
def rowOf (f : Nat → Int) (len : Nat) : List Value := (List.range len).map fun i => .int .u8 (f i)
theorem rowOf_len (f : Nat → Int) (n : Nat) : (rowOf f n).length = n := by simp [rowOf]
theorem rowOf_at (f : Nat → Int) {n i : Nat} (h : i < n) : (rowOf f n)[i]? = some (.int .u8 (f i)) := by simp [rowOf, h]
theorem row_one (f : Nat → Int) (len : Nat) : ∀ u ∈ rowOf f len, u.oneCell' = true := by
  intro u hu
  simp [rowOf] at hu
  obtain ⟨i, _, rfl⟩ := hu
  rfl
/-- A sector's cells. -/
def sec (f : Nat → Int) : Array Value := (rowOf f 1024).toArray
theorem sec_size (f : Nat → Int) : (sec f).size = 1024 := by simp [sec, rowOf]
theorem toList_mk (l : List Value) : l.toArray.toList = l := rfl
theorem sec_toList (f : Nat → Int) : (sec f).toList = rowOf f 1024 := by unfold sec; exact toList_mk _
theorem sec_at (f : Nat → Int) {i : Nat} (h : i < 1024) : (sec f)[i]? = some (.int .u8 (f i)) := by
  simp only [sec, List.getElem?_toArray]; exact rowOf_at f h
theorem rowOf_ext {f g : Nat → Int} {n : Nat} (h : ∀ i, i < n → f i = g i) : rowOf f n = rowOf g n :=
  List.map_congr_left fun i hi => by rw [h i (List.mem_range.1 hi)]
theorem sec_ext {f g : Nat → Int} (h : ∀ i, i < 1024 → f i = g i) : sec f = sec g := by
  rw [sec, rowOf_ext h, sec]
theorem flat1 {α β : Type} (h : α → β) : ∀ l : List α, (l.map fun i => [h i]).flatten = l.map h
  | [] => rfl
  | a :: r => by simp [flat1 h r]
def ByteF (f : Nat → Int) : Prop := ∀ i, i < 1024 → 0 ≤ f i ∧ f i ≤ 255

def rowAt (w : World) (b : Nat) : Option (Array Value) := match w.heap[b]? with
  | some (.cells cs _ _) => some cs
  | _ => none
theorem rowAt_new (w : World) (X : Array Value) (t : TypeId) (fr : Nat × Nat) : rowAt (w.alloc (.cells X t fr)) w.heap.size = some X := by
  have : (w.alloc (.cells X t fr)).heap[w.heap.size]? = some (.cells X t fr) := by
    show (w.heap.push _)[w.heap.size]? = _
    simp
  simp only [rowAt, this]
theorem rowAt_old (w : World) (o : Obj) (b : Nat) (h : b ≠ w.heap.size) : rowAt (w.alloc o) b = rowAt w b := by
  have : (w.alloc o).heap[b]? = w.heap[b]? := by
    show (w.heap.push _)[b]? = _
    rw [Array.getElem?_push]; simp [h]
  simp only [rowAt, this]
theorem rowAt_drew (w : World) (b : Nat) : rowAt w.drew b = rowAt w b := rfl
theorem rowAt_drewN (w : World) (n b : Nat) : rowAt (w.drewN n) b = rowAt w b := rfl
theorem rowAt_cell {w : World} {b : Nat} {X : Array Value} (h : rowAt w b = some X) (i : Nat) : w.cell? ⟨b, i, none⟩ = X[i]? := by
  unfold rowAt at h
  split at h
  · rename_i hb
    cases h
    simp [World.cell?, hb]
  · cases h
theorem rowAt_below {B : Nat} {w w' : World} (hb : Below B w w') (b : Nat) (h : b < B) : rowAt w' b = rowAt w b := by
  unfold rowAt; rw [hb.block b h]
def roomAt (w : World) (b n : Nat) : Bool := match w.heap[b]? with
  | some (.cells Y _ fr) => Y.size == n && fr == (0, 0)
  | _ => false
theorem roomAt_new (w : World) (X : Array Value) (t : TypeId) (n k : Nat) (hk : k = w.heap.size) (h : X.size = n) : roomAt (w.alloc (.cells X t)) k n = true := by
  subst hk
  have : (w.alloc (.cells X t)).heap[w.heap.size]? = some (.cells X t) := by
    show (w.heap.push _)[w.heap.size]? = _
    simp
  simp only [roomAt, this]; simp [h]
theorem roomAt_old (w : World) (o : Obj) (b n : Nat) (h : b < w.heap.size) : roomAt (w.alloc o) b n = roomAt w b n := by
  have : (w.alloc o).heap[b]? = w.heap[b]? := by
    show (w.heap.push _)[b]? = _
    rw [Array.getElem?_push]; simp [Nat.ne_of_lt h]
  simp only [roomAt, this]
theorem roomAt_drew (w : World) (b n : Nat) : roomAt w.drew b n = roomAt w b n := rfl
theorem roomAt_drewN (w : World) (k b n : Nat) : roomAt (w.drewN k) b n = roomAt w b n := rfl
theorem roomAt_below {B : Nat} {w w' : World} (hb : Below B w w') (b n : Nat) (h : b < B) : roomAt w' b n = roomAt w b n := by
  unfold roomAt; rw [hb.block b h]
theorem room_there {w : World} {b n : Nat} (h : roomAt w b n = true) : w.there b 0 n := by
  unfold roomAt at h
  split at h
  · rename_i Y t fr hb
    simp only [Bool.and_eq_true, beq_iff_eq] at h
    obtain ⟨h1, h2⟩ := h
    subst h2
    intro j hj
    refine ⟨?_, ?_⟩
    · rw [Nat.zero_add, show w.cell? ⟨b, j, none⟩ = Y[j]? by simp [World.cell?, hb], Array.getElem?_eq_getElem (by omega)]; rfl
    · simp [World.frozen?, hb]
  · cases h
theorem putRow_is (w : World) (b : Nat) (X : Array Value) : ∃ w' : World, w' = w.setCells b 0 X.toList := ⟨_, rfl⟩
noncomputable def putRow (w : World) (b : Nat) (X : Array Value) : World := Classical.choose (putRow_is w b X)
theorem putRow_eq (w : World) (b : Nat) (X : Array Value) : putRow w b X = w.setCells b 0 X.toList := Classical.choose_spec (putRow_is w b X)
def putList : Array Value → Nat → List Value → Array Value
  | Y, _, [] => Y
  | Y, o, v :: r => putList (Y.setIfInBounds o v) (o + 1) r
theorem setCells_new (w : World) (t : TypeId) : ∀ (vs : List Value) (o : Nat) (Y : Array Value), (w.alloc (.cells Y t)).setCells w.heap.size o vs = w.alloc (.cells (putList Y o vs) t)
  | [], _, _ => rfl
  | v :: r, o, Y => by
    rw [World.setCells, World.setCell_alloc_new, setCells_new w t r, putList]
theorem putList_size : ∀ (vs : List Value) (o : Nat) (Y : Array Value), (putList Y o vs).size = Y.size
  | [], _, _ => rfl
  | v :: r, o, Y => by rw [putList, putList_size r]; simp
theorem putList_at : ∀ (vs : List Value) (o : Nat) (Y : Array Value) (k : Nat), k < Y.size → (putList Y o vs)[k]? = if o ≤ k ∧ k < o + vs.length then vs[k - o]? else Y[k]?
  | [], o, Y, k, _ => by simp [putList]; intros; omega
  | v :: r, o, Y, k, hk => by
    rw [putList, putList_at r (o + 1) _ k (by simpa using hk)]
    by_cases h1 : o + 1 ≤ k ∧ k < o + 1 + r.length
    · rw [if_pos h1, if_pos (by simp; omega), show k - o = (k - (o + 1)) + 1 by omega]; simp
    · rw [if_neg h1]
      by_cases h2 : k = o
      · subst h2; rw [if_pos (by simp)]; simp [hk]
      · rw [if_neg (by simp; omega)]; simp [Ne.symm h2]
theorem putList_all (X Y : Array Value) (h : Y.size = X.size) : putList Y 0 X.toList = X := by
  apply Array.ext_getElem?
  intro k
  by_cases hk : k < Y.size
  · rw [putList_at _ _ _ _ hk, if_pos (by simp; omega)]; simp
  · rw [Array.getElem?_eq_none (by rw [putList_size]; omega), Array.getElem?_eq_none (by omega)]
theorem putRow_new (w : World) (t : TypeId) (X Y : Array Value) (k : Nat) (hk : k = w.heap.size) (h : Y.size = X.size) : putRow (w.alloc (.cells Y t)) k X = w.alloc (.cells X t) := by
  subst hk
  rw [putRow_eq, setCells_new, putList_all X Y h]
theorem rowAt_at (w : World) (X : Array Value) (t : TypeId) (fr : Nat × Nat) (k : Nat) (hk : k = w.heap.size) : rowAt (w.alloc (.cells X t fr)) k = some X := by subst hk; exact rowAt_new w X t fr
theorem setCells_past (o : Obj) (b : Nat) : ∀ (vs : List Value) (k : Nat) (w : World), b < w.heap.size → (w.alloc o).setCells b k vs = (w.setCells b k vs).alloc o
  | [], _, _, _ => rfl
  | v :: r, k, w, h => by
    rw [World.setCells, World.setCells, World.setCell_alloc_past _ _ _ _ h, setCells_past o b r (k + 1) _ (by simpa using h)]
theorem putRow_past (w : World) (o : Obj) (b : Nat) (X : Array Value) (h : b < w.heap.size) : putRow (w.alloc o) b X = (putRow w b X).alloc o := by rw [putRow_eq, putRow_eq]; exact setCells_past o b _ _ _ h
theorem setCells_drew (b : Nat) : ∀ (vs : List Value) (k : Nat) (w : World), w.drew.setCells b k vs = (w.setCells b k vs).drew
  | [], _, _ => rfl
  | v :: r, k, w => by rw [World.setCells, World.setCells, World.setCell_drew, setCells_drew b r]
theorem alloc_drewN (w : World) (n : Nat) (o : Obj) : (w.drewN n).alloc o = (w.alloc o).drewN n := rfl
theorem setCell_drewN (w : World) (n : Nat) (a : Addr) (v : Value) : (w.drewN n).setCell a v = (w.setCell a v).drewN n := rfl
theorem setCells_drewN (n b : Nat) : ∀ (vs : List Value) (k : Nat) (w : World), (w.drewN n).setCells b k vs = (w.setCells b k vs).drewN n
  | [], _, _ => rfl
  | v :: r, k, w => by rw [World.setCells, World.setCells, setCell_drewN, setCells_drewN n b r]
theorem putRow_drewN (w : World) (n b : Nat) (X : Array Value) : putRow (w.drewN n) b X = (putRow w b X).drewN n := by rw [putRow_eq, putRow_eq]; exact setCells_drewN n b _ _ _
theorem below_setCells {B : Nat} {a : World} (b : Nat) (hb : B ≤ b) : ∀ (vs : List Value) (k : Nat) (w : World), Below B a w → Below B a (w.setCells b k vs)
  | [], _, _, h => h
  | v :: r, k, w, h => by rw [World.setCells]; exact below_setCells b hb r (k + 1) _ (h.setCell (by simpa using hb) _)
theorem below_put {B : Nat} {a w : World} (h : Below B a w) (b : Nat) (hb : B ≤ b) (X : Array Value) : Below B a (putRow w b X) := by
  rw [putRow_eq]; exact below_setCells b hb _ _ _ h
theorem setCells_heap {b : Nat} {t : TypeId} {fr : Nat × Nat} : ∀ (vs : List Value) (k : Nat) (w : World) (Y : Array Value), w.heap[b]? = some (.cells Y t fr) → (w.setCells b k vs).heap[b]? = some (.cells (putList Y k vs) t fr)
  | [], _, _, _, h => h
  | v :: r, k, w, Y, h => by rw [World.setCells, putList]; exact setCells_heap r (k + 1) _ _ (Go.Joins.block_setCell h v)
theorem rowAt_put {w : World} {b : Nat} {X : Array Value} (h : roomAt w b X.size = true) : rowAt (putRow w b X) b = some X := by
  unfold roomAt at h
  split at h
  · rename_i Y t fr hb
    simp only [Bool.and_eq_true, beq_iff_eq] at h
    rw [putRow_eq]
    unfold rowAt
    rw [setCells_heap _ _ _ _ hb, putList_all X Y h.1]
  · cases h
theorem size_setCells (b : Nat) : ∀ (vs : List Value) (k : Nat) (w : World), (w.setCells b k vs).heap.size = w.heap.size
  | [], _, _ => rfl
  | v :: r, k, w => by rw [World.setCells, size_setCells b r]; simp
theorem size_put (w : World) (b : Nat) (X : Array Value) : (putRow w b X).heap.size = w.heap.size := by rw [putRow_eq]; exact size_setCells b _ _ _
theorem putRow_drew (w : World) (b : Nat) (X : Array Value) : putRow w.drew b X = (putRow w b X).drew := by rw [putRow_eq, putRow_eq]; exact setCells_drew b _ _ _

theorem roomSec_new (w : World) (f : Nat → Int) (t : TypeId) (k : Nat) (hk : k = w.heap.size) : roomAt (w.alloc (.cells (sec f) t)) k 1024 = true := roomAt_new w _ t _ k hk (sec_size f)
theorem putSec_new (w : World) (t : TypeId) (f g : Nat → Int) (k : Nat) (hk : k = w.heap.size) : putRow (w.alloc (.cells (sec g) t)) k (sec f) = w.alloc (.cells (sec f) t) := putRow_new w t _ _ k hk ((sec_size g).trans (sec_size f).symm)
theorem rowSec_put (w : World) (b : Nat) (f : Nat → Int) (h : roomAt w b 1024 = true) : rowAt (putRow w b (sec f)) b = some (sec f) := rowAt_put (by rw [sec_size]; exact h)

theorem Tryz.infoSec : (Tryz.prog.info? 98).map (fun i => (i.zero, i.size)) = some (some (.agg (sec fun _ => 0)), 1024) := by kernel_rfl
theorem zeroSec (w : World) : (zeroValue 98).run Tryz.prog w = .ok (.agg (sec fun _ => 0)) w := (zero_of_info Tryz.infoSec).1 w
theorem Tryz.sizeSec : (Tryz.prog.info? 98).map (·.size) = some 1024 := (zero_of_info Tryz.infoSec).2
def loadSec (a : Addr) : Sem Value := loadVar 98 a
theorem loadSec_seal (a : Addr) : loadVar 98 a = loadSec a := rfl
theorem loadSec_run (w : World) (b : Nat) : (loadSec ⟨b, 0, none⟩).run Tryz.prog w = (match rowAt w b with
    | some X => if X.size = 1024 then .ok (.agg X) w else (loadSec ⟨b, 0 + 0, none⟩).run Tryz.prog w
    | none => (loadSec ⟨b, 0 + 0, none⟩).run Tryz.prog w) := by
  split
  · rename_i X hX
    split
    · rename_i hs
      have hl : X.toList.length = 1024 := by simpa using hs
      have := run_loadVar_mid (P := Tryz.prog) w b 0 98 X.toList _ (fun j v hv => by rw [Nat.zero_add, rowAt_cell hX]; simpa using hv) Tryz.underlying98 rfl (by rw [hl]; exact Tryz.sizeSec)
      simpa [loadSec] using this
    · rfl
  · rfl
def storeSec (a : Addr) (v : Value) : Sem Unit := storeVar 98 a v
theorem storeSec_seal (a : Addr) (v : Value) : storeVar 98 a v = storeSec a v := rfl
theorem storeSec_run (w : World) (b : Nat) (f : Nat → Int) (h : roomAt w b 1024 = true) : (storeSec ⟨b, 0, none⟩ (.agg (sec f))).run Tryz.prog w = .ok () (putRow w b (sec f)) := by
  rw [putRow_eq]; exact run_storeVar_mid w b 0 98 (sec f) (room_there (by rw [sec_size]; exact h)) (by rw [sec_size]; exact Tryz.sizeSec) (all_oneCell_toArray (row_one f 1024))

/-! How two sectors are held against each other. -/
def litsN (f : Nat → Int) (n : Nat) : List Lit := (List.range n).map fun i => .int .u8 (f i)
def litsOf (f : Nat → Int) : List Lit := litsN f 1024
theorem litsN_iff (f g : Nat → Int) (n : Nat) : litsN f n = litsN g n ↔ ∀ i, i < n → f i = g i := by
  constructor
  · intro h i hi
    have := congrArg (fun l => l[i]?) h
    simpa [litsN, hi] using this
  · intro h
    exact List.map_congr_left fun i hi => by rw [h i (List.mem_range.1 hi)]
theorem lits_iff (f g : Nat → Int) : litsOf f = litsOf g ↔ ∀ i, i < 1024 → f i = g i := litsN_iff f g 1024
theorem wf_u8 {z : Int} (h : 0 ≤ z ∧ z ≤ 255) : (Lit.int .u8 z).wf = true := by simpa [Lit.wf, IntKind.min, IntKind.max, IntKind.signed, IntKind.bits] using h
theorem Tryz.cellsS : Tryz.prog.cellsOf 98 = 1024 := by kernel_rfl
theorem Tryz.cells5 : Tryz.prog.cellsOf 5 = 1 := by kernel_rfl
theorem mapM_all {α β : Type} {g : α → Option β} {h : α → β} : ∀ {l : List α}, (∀ x ∈ l, g x = some (h x)) → l.mapM g = some (l.map h)
  | [], _ => rfl
  | a :: r, hg => by
    rw [List.mapM_cons, hg a (by simp), mapM_all (l := r) (fun x hx => hg x (by simp [hx]))]; rfl
theorem kl_sec (f : Nat → Int) (h : ByteF f) : Tryz.prog.keyLits 2 98 (sec f).toList = some (litsOf f) := by
  unfold Program.keyLits
  rw [Tryz.underlying98]
  simp only []
  rw [sec_toList, if_pos ((rowOf_len f 1024).trans Tryz.cellsS.symm), mapM_all (h := fun i => [Lit.int .u8 (f i)])]
  · show some (List.flatten _) = _
    rw [flat1]; rfl
  · intro i hi
    have hi := List.mem_range.1 hi
    rw [Tryz.cells5, Nat.mul_one]
    have e : ((rowOf f 1024).drop i).take 1 = [.int .u8 (f i)] := by
      have := rowOf_at f hi
      rw [List.take_one, List.head?_drop, this]; rfl
    rw [e]
    simp [Program.keyLits, Tryz.underlying5, wf_u8 (h i hi)]
def eqlSec (x y : Value) : Sem Value := binOp .eql 98 x y
theorem eqlSec_seal (x y : Value) : binOp .eql 98 x y = eqlSec x y := rfl
theorem formed_sec (f : Nat → Int) : (Value.agg (sec f)).formed Tryz.prog 98 = true := by
  simp [Value.formed, Tryz.underlying98, Tryz.cellsS, sec_size]
theorem eql_sec (f g : Nat → Int) (hf : ByteF f) (hg : ByteF g) : ∃ r : Bool, (∀ w, (eqlSec (.agg (sec f)) (.agg (sec g))).run Tryz.prog w = .ok (.bool r) w) ∧ (r = true ↔ ∀ i, i < 1024 → f i = g i) := by
  have key : ∀ w, ∃ r : Bool, (Op.equalIn 10000 98 (.agg (sec f)) (.agg (sec g))).run Tryz.prog w = .ok r w ∧ (r = true ↔ litsOf f = litsOf g) := fun w =>
    run_equalIn_deep 9998 2 98 (by kernel_rfl) w 2 2 (.agg (sec f)) (.agg (sec g)) (litsOf f) (litsOf g) (formed_sec f) (formed_sec g) (kl_sec f hf) (kl_sec g hg)
  by_cases h : litsOf f = litsOf g
  · refine ⟨true, fun w => ?_, by rw [← lits_iff]; simp [h]⟩
    obtain ⟨r, hr, hi⟩ := key w
    rw [eqlSec, run_eql_struct, hr, hi.2 h]; rfl
  · refine ⟨false, fun w => ?_, by rw [← lits_iff]; simp [h]⟩
    obtain ⟨r, hr, hi⟩ := key w
    have : r = false := by
      cases r
      · rfl
      · exact absurd (hi.1 rfl) h
    rw [eqlSec, run_eql_struct, hr, this]; rfl
theorem ret_cell1 {P : Program} {fn : Func} {R : Ending → World → Prop} {a : Act} {w : World} {p : Tmp} {ty : TypeId} {ad : Addr} {v : Value} (h : fn.results = #[.cell p ty]) (hp : a.tmps.getD p undef = .pointer (some ad)) (hl : (loadVar ty ad).run P w = .ok v w) (hd : a.defers = []) (hR : R (.returned v) w) : bodyPost P fn R .ret a w := by
  refine bodyPost_ret (v := v) ?_ hd hR
  have hp' : a.tmps[p]?.getD undef = .pointer (some ad) := by simpa using hp
  simp only [results, h]
  simp [hp', asAddr, hl]
theorem ret_cell_tmp {P : Program} {fn : Func} {R : Ending → World → Prop} {a : Act} {w : World} {p q : Tmp} {ty : TypeId} {ad : Addr} {v : Value} (h : fn.results = #[.cell p ty, .tmp q]) (hp : a.tmps.getD p undef = .pointer (some ad)) (hl : (loadVar ty ad).run P w = .ok v w) (hd : a.defers = []) (hR : R (.returned (.tuple #[v, a.tmps.getD q undef])) w) : bodyPost P fn R .ret a w := by
  refine bodyPost_ret (v := .tuple #[v, a.tmps.getD q undef]) ?_ hd hR
  have hp' : a.tmps[p]?.getD undef = .pointer (some ad) := by simpa using hp
  simp only [results, h]
  simp [hp', asAddr, hl]
theorem ret_cell_tmp2 {P : Program} {fn : Func} {R : Ending → World → Prop} {a : Act} {w : World} {p q r : Tmp} {ty : TypeId} {ad : Addr} {v : Value} (h : fn.results = #[.cell p ty, .tmp q, .tmp r]) (hp : a.tmps.getD p undef = .pointer (some ad)) (hl : (loadVar ty ad).run P w = .ok v w) (hd : a.defers = []) (hR : R (.returned (.tuple #[v, a.tmps.getD q undef, a.tmps.getD r undef])) w) : bodyPost P fn R .ret a w := by
  refine bodyPost_ret (v := .tuple #[v, a.tmps.getD q undef, a.tmps.getD r undef]) ?_ hd hR
  have hp' : a.tmps[p]?.getD undef = .pointer (some ad) := by simpa using hp
  simp only [results, h]
  simp [hp', asAddr, hl]
end Go.Proofs.YteegkhnikcioiaaGreatDoor

namespace Go.Proofs.YteegkhnikcioiaaGreatDoor
open Go.ChangeShapes Go.WideShapes Go.ChangeAt Go.RowKit
attribute [local go_sem ↓] loadSec_seal storeSec_seal eqlSec_seal zeroSec
attribute [local go_sem] loadSec_run storeSec_run rowAt_at rowAt_old rowAt_drew rowAt_drewN roomSec_new roomAt_old roomAt_drew roomAt_drewN putSec_new putRow_past rowSec_put size_put putRow_drew putRow_drewN alloc_drewN setCell_drewN sec_size

set_option linter.unusedVariables false

theorem bdrewN {B : Nat} {a w : World} (h : Below B a w) (n : Nat) : Below B a (w.drewN n) := ⟨h.os, h.tape, h.output, h.size, h.block⟩
def isSizeB (n : Int) : Bool := decide (8 ≤ n) && decide (n ≤ 1024)
theorem isSize_any (n : Int) (w : World) : Calls Tryz.prog 42 #[.int .i64 n] w fun e w' => e = .returned (.bool (isSizeB n)) ∧ Below w.heap.size w w' := by
  by_cases h : 8 ≤ n
  all_goals
    go_enter Tryz.func42, Tryz.ntmps42
    go_wp2
    go_ret
    refine ⟨?_, by go_grown⟩
    first | (simp [isSizeB, h]; done) | (simp [isSizeB]; omega)
def placeE (n : Int) (len : Nat) : Int := if n < 0 ∨ (len : Int) ≤ n then 31 else 0
def dataE (len : Nat) : Int := if (len : Int) = 1024 then 0 else 32
def wearE (len : Nat) : Int := if 4096 ≤ (len : Int) then 33 else 0
theorem place_any (b : Nat) (n : Int) (v : Value) (na : Option Addr) (len cap : Nat) (w : World) (hc : w.cell? ⟨b, 1, none⟩ = some (.slice na len cap)) :
    Calls Tryz.prog 158 #[.agg #[.pointer (some ⟨b, 0, none⟩), .int .i64 n, v]] w fun e w' => e = .returned (.int .i64 (placeE n len)) ∧ Below w.heap.size w w' := by
  have hb := World.block_lt_of_cell? _ _ hc
  simp only [] at hb
  by_cases h0 : n < 0
  · go_enter Tryz.func158, Tryz.ntmps158
    go_wp2
    go_quiet (fail)
    go_wp2
    go_ret
    refine ⟨?_, bdrewN (by go_grown) _⟩
    simp [placeE, h0]
  · by_cases h1 : (len : Int) ≤ n
    all_goals
      go_enter Tryz.func158, Tryz.ntmps158
      go_wp2
      go_quiet (fail)
      go_wp2
      go_ret
      refine ⟨?_, bdrewN (by go_grown) _⟩
      first | (simp [placeE, h1]; done) | (simp [placeE]; omega)
theorem data_any (p : Value) (n : Int) (a : Option Addr) (len cap : Nat) (w : World) :
    Calls Tryz.prog 160 #[.agg #[p, .int .i64 n, .slice a len cap]] w fun e w' => e = .returned (.int .i64 (dataE len)) ∧ Below w.heap.size w w' := by
  by_cases h0 : (len : Int) = 1024
  all_goals
    go_enter Tryz.func160, Tryz.ntmps160
    go_wp2
    go_ret
    refine ⟨?_, by go_grown⟩
    simp [dataE, h0]
theorem wear_any (b : Nat) (n : Value) (v : Value) (na : Option Addr) (len cap : Nat) (w : World) (hc : w.cell? ⟨b, 2, none⟩ = some (.slice na len cap)) :
    Calls Tryz.prog 161 #[.agg #[.pointer (some ⟨b, 0, none⟩), n, v]] w fun e w' => e = .returned (.int .i64 (wearE len)) ∧ Below w.heap.size w w' := by
  have hb := World.block_lt_of_cell? _ _ hc
  simp only [] at hb
  by_cases h0 : 4096 ≤ (len : Int)
  all_goals
    go_enter Tryz.func161, Tryz.ntmps161
    go_wp2
    go_ret
    refine ⟨?_, by go_grown⟩
    simp [wearE, h0]
end Go.Proofs.YteegkhnikcioiaaGreatDoor

namespace Go.Proofs.YteegkhnikcioiaaGreatDoor
open Go.ChangeShapes Go.WideShapes Go.ChangeAt Go.RowKit
attribute [local go_sem ↓] loadSec_seal storeSec_seal eqlSec_seal zeroSec
attribute [local go_sem] loadSec_run storeSec_run rowAt_at rowAt_old rowAt_drew rowAt_drewN roomSec_new roomAt_old roomAt_drew roomAt_drewN putSec_new putRow_past rowSec_put size_put putRow_drew putRow_drewN alloc_drewN setCell_drewN sec_size

set_option linter.unusedVariables false

def firstE (n : Int) (nlen len rlen : Nat) : Int := if placeE n nlen = 0 then (if dataE len = 0 then wearE rlen else dataE len) else placeE n nlen
def askV (f : Nat) (b : Nat) (n : Int) (a : Option Addr) (len cap : Nat) : Value := .func (.func f) #[.agg #[.pointer (some ⟨b, 0, none⟩), .int .i64 n, .slice a len cap]] #[]
set_option maxHeartbeats 1000000 in
theorem first_any (g b : Nat) (n : Int) (a : Option Addr) (len cap : Nat) (na : Option Addr) (nlen ncap : Nat) (ra : Option Addr) (rlen rcap : Nat) (w : World)
    (h0 : w.cell? ⟨g, 0, none⟩ = some (askV 158 b n a len cap)) (h1 : w.cell? ⟨g, 1, none⟩ = some (askV 160 b n a len cap)) (h2 : w.cell? ⟨g, 2, none⟩ = some (askV 161 b n a len cap))
    (hn : w.cell? ⟨b, 1, none⟩ = some (.slice na nlen ncap)) (hr : w.cell? ⟨b, 2, none⟩ = some (.slice ra rlen rcap)) :
    Calls Tryz.prog 159 #[.slice (some ⟨g, 0, none⟩) 3 3] w fun e w' => e = .returned (.int .i64 (firstE n nlen len rlen)) ∧ Below w.heap.size w w' := by
  have hg := World.block_lt_of_cell? _ _ h0
  have hb := World.block_lt_of_cell? _ _ hn
  simp only [] at hb hg
  have HC : Hid (∀ X, Below w.heap.size w X → (X.cell? ⟨g, 0, none⟩ = some (askV 158 b n a len cap) ∧ X.cell? ⟨g, 1, none⟩ = some (askV 160 b n a len cap) ∧ X.cell? ⟨g, 2, none⟩ = some (askV 161 b n a len cap)) ∧ X.cell? ⟨b, 1, none⟩ = some (.slice na nlen ncap) ∧ X.cell? ⟨b, 2, none⟩ = some (.slice ra rlen rcap)) := fun X hX =>
    ⟨⟨(hX.cell (p := ⟨g, 0, none⟩) hg).trans h0, (hX.cell (p := ⟨g, 1, none⟩) hg).trans h1, (hX.cell (p := ⟨g, 2, none⟩) hg).trans h2⟩, (hX.cell (p := ⟨b, 1, none⟩) hb).trans hn, (hX.cell (p := ⟨b, 2, none⟩) hb).trans hr⟩
  clear h0 h1 h2 hn hr hg hb
  unfold askV at HC
  go_enter Tryz.func159, Tryz.ntmps159
  go_wp2
  go_loopw [8] (fun i X => ∃ k : Nat, k ≤ 3 ∧ i = .int .i64 k ∧ (1 ≤ k → placeE n nlen = 0) ∧ (2 ≤ k → dataE len = 0) ∧ (3 ≤ k → wearE rlen = 0) ∧ Below w.heap.size w X) (fun i _ => 3 - (intOf i).toNat)
  case atStart => exact ⟨0, by omega, rfl, by omega, by omega, by omega, Below.refl _ _⟩
  case round =>
    obtain ⟨k, hk, rfl, p1, p2, p3, hX⟩ := hrel
    obtain ⟨⟨c0, c1, c2⟩, cn, cr⟩ := HC.out _ hX
    have HP : Hid ((1 ≤ k → placeE n nlen = 0) ∧ (2 ≤ k → dataE len = 0) ∧ (3 ≤ k → wearE rlen = 0)) := ⟨p1, p2, p3⟩
    have HB : Hid (Below w.heap.size w _) := hX
    clear HC p1 p2 p3 hX
    have hk : k = 0 ∨ k = 1 ∨ k = 2 ∨ k = 3 := by omega
    rcases hk with rfl | rfl | rfl | rfl
    · by_cases hp : placeE n nlen = 0
      · go_wp2_with (go_at_call 158; refine (place_any _ _ _ _ _ _ _ cn).mono ?_; rintro e w1 ⟨rfl, hb1⟩)
        go_roundw
        case rel => exact ⟨1, by omega, by go_num, fun _ => hp, by omega, by omega, HB.out.trans (hb1.mono HB.out.size)⟩
        case measure => simp [intOf]
      · go_wp2_with (go_at_call 158; refine (place_any _ _ _ _ _ _ _ cn).mono ?_; rintro e w1 ⟨rfl, hb1⟩)
        go_ret
        exact ⟨by simp [firstE, hp], HB.out.trans (hb1.mono HB.out.size)⟩
    · have hp := HP.out.1 (by omega)
      by_cases hd : dataE len = 0
      · go_wp2_with (go_at_call 160; refine (data_any _ _ _ _ _ _).mono ?_; rintro e w1 ⟨rfl, hb1⟩)
        go_roundw
        case rel => exact ⟨2, by omega, by go_num, fun _ => hp, fun _ => hd, by omega, HB.out.trans (hb1.mono HB.out.size)⟩
        case measure => simp [intOf]
      · go_wp2_with (go_at_call 160; refine (data_any _ _ _ _ _ _).mono ?_; rintro e w1 ⟨rfl, hb1⟩)
        go_ret
        exact ⟨by simp [firstE, hp, hd], HB.out.trans (hb1.mono HB.out.size)⟩
    · have hp := HP.out.1 (by omega)
      have hd := HP.out.2.1 (by omega)
      by_cases hw : wearE rlen = 0
      · go_wp2_with (go_at_call 161; refine (wear_any _ _ _ _ _ _ _ cr).mono ?_; rintro e w1 ⟨rfl, hb1⟩)
        go_roundw
        case rel => exact ⟨3, by omega, by go_num, fun _ => hp, fun _ => hd, fun _ => hw, HB.out.trans (hb1.mono HB.out.size)⟩
        case measure => simp [intOf]
      · go_wp2_with (go_at_call 161; refine (wear_any _ _ _ _ _ _ _ cr).mono ?_; rintro e w1 ⟨rfl, hb1⟩)
        go_ret
        exact ⟨by simp [firstE, hp, hd], HB.out.trans (hb1.mono HB.out.size)⟩
    · go_wp2
      go_ret
      exact ⟨by simp [firstE, HP.out.1 (by omega), HP.out.2.1 (by omega), HP.out.2.2 (by omega)], HB.out⟩
end Go.Proofs.YteegkhnikcioiaaGreatDoor

namespace Go.Proofs.YteegkhnikcioiaaGreatDoor
open Go.ChangeShapes Go.WideShapes Go.ChangeAt Go.RowKit
attribute [local go_sem ↓] loadSec_seal storeSec_seal eqlSec_seal zeroSec
attribute [local go_sem] loadSec_run storeSec_run rowAt_at rowAt_old rowAt_drew rowAt_drewN roomSec_new roomAt_old roomAt_drew roomAt_drewN putSec_new putRow_past rowSec_put size_put putRow_drew putRow_drewN alloc_drewN setCell_drewN sec_size

set_option linter.unusedVariables false

theorem rowAt_lt {w : World} {b : Nat} {X : Array Value} (h : rowAt w b = some X) : b < w.heap.size := by
  rcases Nat.lt_or_ge b w.heap.size with h1 | h1
  · exact h1
  · unfold rowAt at h; rw [Array.getElem?_eq_none h1] at h; cases h
def ptrs (p : Nat → Nat) (n : Nat) : List Value := (List.range n).map fun i => .pointer (some ⟨p i, 0, none⟩)
theorem ptrs_len (p : Nat → Nat) (n : Nat) : (ptrs p n).length = n := by simp [ptrs]
theorem ptrs_at (p : Nat → Nat) {n i : Nat} (h : i < n) : (ptrs p n)[i]? = some (.pointer (some ⟨p i, 0, none⟩)) := by simp [ptrs, h]
theorem ptrs_one (p : Nat → Nat) (n : Nat) : ∀ u ∈ ptrs p n, u.oneCell' = true := by
  intro u hu
  simp [ptrs] at hu
  obtain ⟨i, _, rfl⟩ := hu
  rfl
theorem add_lit0 (g j : Nat) : (⟨g, 0, none⟩ : Addr).add j = ⟨g, j, none⟩ := by rw [Addr.add_mid, Nat.zero_add]
theorem ptrs_src {w : World} {g n : Nat} {p : Nat → Nat} (h : ∀ i, i < n → w.cell? ⟨g, i, none⟩ = some (.pointer (some ⟨p i, 0, none⟩))) : ∀ j u, (ptrs p n)[j]? = some u → w.cell? ((⟨g, 0, none⟩ : Addr).add j) = some u := by
  intro j u hj
  rw [add_lit0]
  have hl : j < n := by
    have := (List.getElem?_eq_some_iff.1 hj).1
    simpa [ptrs] using this
  rw [h j hl, ← hj, ptrs_at p hl]
theorem info58 : (Tryz.prog.info? 95).map (fun i => (i.zero, i.size, i.bytes)) = some (some (.pointer none), 1, 8) := by kernel_rfl
theorem info5 : (Tryz.prog.info? 5).map (fun i => (i.zero, i.size, i.bytes)) = some (some (.int .u8 0), 1, 1) := by kernel_rfl
theorem size5 : (Tryz.prog.info? 5).map (·.size) = some 1 := by kernel_rfl
theorem size58 : (Tryz.prog.info? 95).map (·.size) = some 1 := by kernel_rfl
theorem clone_any (g n cap : Nat) (p : Nat → Nat) (w : World) (n0 : 0 < n) (n1 : n ≤ 1024) (hc : ∀ i, i < n → w.cell? ⟨g, i, none⟩ = some (.pointer (some ⟨p i, 0, none⟩))) :
    Calls Tryz.prog 55 #[.slice (some ⟨g, 0, none⟩) n cap] w fun e w' => ∃ h c, e = .returned (.slice (some ⟨h, 0, none⟩) n c) ∧ w'.ownsRow 0 95 1 (.slice (some ⟨h, 0, none⟩) n c) n (ptrs p n) ∧ w.heap.size ≤ h ∧ h < w'.heap.size ∧ Below w.heap.size w w' := by
  obtain ⟨i0, hi, hz0, hz1, hz2⟩ := info_parts info58
  have hg := World.block_lt_of_cell? _ _ (hc 0 n0)
  simp only [] at hg
  have HC : Hid (∀ o : Obj, ∀ j u, (ptrs p n)[j]? = some u → (w.alloc o).cell? ((⟨g, 0, none⟩ : Addr).add j) = some u) := fun o j u hj => by
    have := ptrs_src hc j u hj
    rw [add_lit0] at this ⊢
    rw [World.cell?_alloc_old _ _ _ (Nat.ne_of_lt hg)]; exact this
  have heq : ∀ w', (binOp .eql 91 (.slice (some ⟨g, 0, none⟩) n cap) (.slice none 0 0)).run Tryz.prog w' = .ok (.bool false) w' := fun w' => Lib.run_eql_slice_nil w' _ _ _ _ _ _ _ Tryz.underlying91
  clear hc
  go_enter Tryz.func55, Tryz.ntmps55
  go_wp2_with (at_builtin; refine wpList_append_lies _ rfl _ _ 91 rfl w.heap.size 95 i0 (.pointer none) 1 8 Tryz.underlying91 hi hz0 hz1 hz2 rfl (by decide) _ 0 [] rfl (World.ownsRow_made w #[] 0 (Nat.le_refl _) (by decide) rfl) ⟨g, 0, none⟩ n cap (ptrs p n) rfl (by simp [ptrs]) (HC.out _) (ptrs_one p n) n0 (by unfold maxLen; omega) (by omega) (by simp) _ rfl ?_; intro h c w1 hown hgrow hat hlt)
  go_ret
  have hb : Below w.heap.size w w1 := ((Below.refl _ w).alloc (Nat.le_refl _) _).grown hgrow (by simp) (fun k hk => Nat.le_of_eq (Option.some.inj (show some w.heap.size = some k from hk)))
  refine ⟨h, c, by simp, ?_, ?_, hlt, hb⟩
  · simp only [Nat.zero_add, List.nil_append] at hown
    exact ⟨hown.1, hown.2.imp id fun ⟨g', cap', cur, a1, a2, a3⟩ => ⟨g', cap', cur, a1, Nat.zero_le _, a3⟩⟩
  · rcases hat with e | e
    · exact Nat.le_of_eq (Option.some.inj (show some w.heap.size = some h from e))
    · simp at e; omega

theorem copy_sec (w : World) (b off cap : Nat) (f : Nat → Int) (hb : b < w.heap.size) (hc : ∀ i, i < 1024 → w.cell? ⟨b, off + i, none⟩ = some (.int .u8 (f i))) :
    (Builtin.copy_ #[49, 49] 3 #[.slice (some ⟨w.heap.size, 0, none⟩) 1024 1024, .slice (some ⟨b, off, none⟩) 1024 cap]).run Tryz.prog (w.alloc (.cells (sec fun _ => 0) 98)) = .ok (.int .i64 1024) (w.alloc (.cells (sec f) 98)) := by
  have hl : (rowOf f 1024).length = 1024 := rowOf_len f 1024
  have e := run_copy_row (P := Tryz.prog) (w.alloc (.cells (sec fun _ => 0) 98)) 49 49 3 5 w.heap.size 0 1024 1024 ⟨b, off, none⟩ 1024 cap (sec fun _ => 0) 98 (rowOf f 1024) Tryz.underlying49 size5 (heap_alloc_last w _) (by rw [hl]; rfl)
    (fun j v hj => by
      have hjl : j < 1024 := by have := (List.getElem?_eq_some_iff.1 hj).1; rwa [hl] at this
      rw [Addr.add_mid, World.cell?_alloc_old _ _ _ (Nat.ne_of_lt hb), hc j hjl, ← hj, rowOf_at f hjl]) (by rw [hl, sec_size]; decide) (row_one f 1024)
  rw [hl, World.setRow_alloc_new] at e
  have e2 : (List.take 0 (sec fun _ => 0).toList ++ rowOf f 1024 ++ List.drop (0 + 1024) (sec fun _ => 0).toList).toArray = sec f := by
    rw [List.take_zero, List.nil_append, List.drop_eq_nil_of_le (by rw [sec_toList, rowOf_len]; decide), List.append_nil]; rfl
  rw [e2] at e
  exact e
theorem holding_any (a : Option Addr) (cap : Nat) (f g : Nat → Int) (t : Nat) (w : World) (hr : RdB w a 1024 f) (ht : rowAt w t = some (sec g)) (hg : ByteF g) :
    Calls Tryz.prog 162 #[.slice a 1024 cap, .pointer (some ⟨t, 0, none⟩)] w fun e w' => ∃ p, e = .returned (.pointer (some ⟨p, 0, none⟩)) ∧ rowAt w' p = some (sec f) ∧ (p = t ∨ p = w.heap.size) ∧ p < w'.heap.size ∧ Below w.heap.size w w' := by
  rcases hr.2 with h | ⟨b, off, rfl, hc⟩
  · omega
  have hb := World.block_lt_of_cell? _ _ (hc 0 (by omega)).1
  simp only [] at hb
  have hcp := copy_sec w b off cap f hb (fun i hi => (hc i hi).1)
  have htl := rowAt_lt ht
  have hne : t ≠ w.heap.size := by omega
  obtain ⟨r, hr1, hr2⟩ := eql_sec f g (fun i hi => (hc i hi).2) hg
  have HI : Hid (r = true ↔ ∀ i, i < 1024 → f i = g i) := hr2
  have HT : Hid (rowAt w t = some (sec g)) := ht
  clear hr hc hr2 hb
  cases r
  · go_enter Tryz.func162, Tryz.ntmps162
    go_wp2
    go_region
    all_goals
      go_wp2
      go_ret
      exact ⟨w.heap.size, rfl, by simp [go_sem], .inr rfl, by simp, by go_grown⟩
  · go_enter Tryz.func162, Tryz.ntmps162
    go_wp2
    go_region
    all_goals
      go_wp2
      go_ret
      refine ⟨t, rfl, ?_, .inl rfl, by simp; omega, by go_grown⟩
      simp only [rowAt_drew]
      rw [rowAt_old _ _ _ hne, HT.out, sec_ext (HI.out.1 (by simp))]
end Go.Proofs.YteegkhnikcioiaaGreatDoor
