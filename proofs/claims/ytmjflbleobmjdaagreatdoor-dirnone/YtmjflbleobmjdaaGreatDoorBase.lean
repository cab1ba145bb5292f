/-
  Sectors as plain data, and how they lie in memory.
-/
import Derived.Test.YtmjflbleobmjdaaGreatDoorChecked
import Derived.Test.YtmjflbleobmjdaaGreatDoorRows
import Derived.WalkKit
import Derived.ProofKit
import Derived.OpenShut
import Derived.ShutString
import Derived.OwnWalk
import Derived.Deep.QuietTactic
import Derived.Deep.MidRow
import Derived.Deep.WholeRow
import Derived.Deep.RegionHeld3
import Derived.Deep.AppendLies
import Derived.DeepKeys
import Derived.BigQuiet
import Derived.Lib.SmallJoins
import Derived.Handy
namespace Go.Proofs.YtmjflbleobmjdaaGreatDoor
open Go.ChangeShapes Go.WideShapes Go.ChangeAt Go.RowKit

/-- A row of bytes that may be read: none, or so many cells. -/
def RdB (w : World) (a : Option Addr) (len : Nat) (f : Nat → Int) : Prop :=
  len ≤ maxLen ∧ (len = 0 ∨ ∃ b off, a = some ⟨b, off, none⟩ ∧ ∀ i, i < len → w.cell? ⟨b, off + i, none⟩ = some (.int .u8 (f i)) ∧ 0 ≤ f i ∧ f i ≤ 255)
def rowOf (f : Nat → Int) (len : Nat) : List Value := (List.range len).map fun i => .int .u8 (f i)
theorem rowOf_len (f : Nat → Int) (n : Nat) : (rowOf f n).length = n := by simp [rowOf]
theorem rowOf_at (f : Nat → Int) {n i : Nat} (h : i < n) : (rowOf f n)[i]? = some (.int .u8 (f i)) := by simp [rowOf, h]
theorem row_one (f : Nat → Int) (len : Nat) : ∀ u ∈ rowOf f len, u.oneCell' = true := by
  intro u hu
  simp [rowOf] at hu
  obtain ⟨i, _, rfl⟩ := hu
  rfl
/-- A sector's cells. -/
def sec (f : Nat → Int) : Array Value := (rowOf f 1024).toArray
theorem sec_size (f : Nat → Int) : (sec f).size = 1024 := by simp [sec, rowOf]
theorem toList_mk (l : List Value) : l.toArray.toList = l := rfl
theorem sec_toList (f : Nat → Int) : (sec f).toList = rowOf f 1024 := by unfold sec; exact toList_mk _
theorem sec_at (f : Nat → Int) {i : Nat} (h : i < 1024) : (sec f)[i]? = some (.int .u8 (f i)) := by
  simp only [sec, List.getElem?_toArray]; exact rowOf_at f h
theorem rowOf_ext {f g : Nat → Int} {n : Nat} (h : ∀ i, i < n → f i = g i) : rowOf f n = rowOf g n :=
  List.map_congr_left fun i hi => by rw [h i (List.mem_range.1 hi)]
theorem sec_ext {f g : Nat → Int} (h : ∀ i, i < 1024 → f i = g i) : sec f = sec g := by
  rw [sec, rowOf_ext h, sec]
theorem flat1 {α β : Type} (h : α → β) : ∀ l : List α, (l.map fun i => [h i]).flatten = l.map h
  | [] => rfl
  | a :: r => by simp [flat1 h r]
def ByteF (f : Nat → Int) : Prop := ∀ i, i < 1024 → 0 ≤ f i ∧ f i ≤ 255

def rowAt (w : World) (b : Nat) : Option (Array Value) := match w.heap[b]? with
  | some (.cells cs _ _) => some cs
  | _ => none
theorem rowAt_new (w : World) (X : Array Value) (t : TypeId) (fr : Nat × Nat) : rowAt (w.alloc (.cells X t fr)) w.heap.size = some X := by
  have : (w.alloc (.cells X t fr)).heap[w.heap.size]? = some (.cells X t fr) := by
    show (w.heap.push _)[w.heap.size]? = _
    simp
  simp only [rowAt, this]
theorem rowAt_old (w : World) (o : Obj) (b : Nat) (h : b ≠ w.heap.size) : rowAt (w.alloc o) b = rowAt w b := by
  have : (w.alloc o).heap[b]? = w.heap[b]? := by
    show (w.heap.push _)[b]? = _
    rw [Array.getElem?_push]; simp [h]
  simp only [rowAt, this]
theorem rowAt_drew (w : World) (b : Nat) : rowAt w.drew b = rowAt w b := rfl
theorem rowAt_drewN (w : World) (n b : Nat) : rowAt (w.drewN n) b = rowAt w b := rfl
theorem rowAt_cell {w : World} {b : Nat} {X : Array Value} (h : rowAt w b = some X) (i : Nat) : w.cell? ⟨b, i, none⟩ = X[i]? := by
  unfold rowAt at h
  split at h
  · rename_i hb
    cases h
    simp [World.cell?, hb]
  · cases h
theorem rowAt_below {B : Nat} {w w' : World} (hb : Below B w w') (b : Nat) (h : b < B) : rowAt w' b = rowAt w b := by
  unfold rowAt; rw [hb.block b h]
def roomAt (w : World) (b n : Nat) : Bool := match w.heap[b]? with
  | some (.cells Y _ fr) => Y.size == n && fr == (0, 0)
  | _ => false
theorem roomAt_new (w : World) (X : Array Value) (t : TypeId) (n k : Nat) (hk : k = w.heap.size) (h : X.size = n) : roomAt (w.alloc (.cells X t)) k n = true := by
  subst hk
  have : (w.alloc (.cells X t)).heap[w.heap.size]? = some (.cells X t) := by
    show (w.heap.push _)[w.heap.size]? = _
    simp
  simp only [roomAt, this]; simp [h]
theorem roomAt_old (w : World) (o : Obj) (b n : Nat) (h : b < w.heap.size) : roomAt (w.alloc o) b n = roomAt w b n := by
  have : (w.alloc o).heap[b]? = w.heap[b]? := by
    show (w.heap.push _)[b]? = _
    rw [Array.getElem?_push]; simp [Nat.ne_of_lt h]
  simp only [roomAt, this]
theorem roomAt_drew (w : World) (b n : Nat) : roomAt w.drew b n = roomAt w b n := rfl
theorem roomAt_drewN (w : World) (k b n : Nat) : roomAt (w.drewN k) b n = roomAt w b n := rfl
theorem roomAt_below {B : Nat} {w w' : World} (hb : Below B w w') (b n : Nat) (h : b < B) : roomAt w' b n = roomAt w b n := by
  unfold roomAt; rw [hb.block b h]
theorem room_there {w : World} {b n : Nat} (h : roomAt w b n = true) : w.there b 0 n := by
  unfold roomAt at h
  split at h
  · rename_i Y t fr hb
    simp only [Bool.and_eq_true, beq_iff_eq] at h
    obtain ⟨h1, h2⟩ := h
    subst h2
    intro j hj
    refine ⟨?_, ?_⟩
    · rw [Nat.zero_add, show w.cell? ⟨b, j, none⟩ = Y[j]? by simp [World.cell?, hb], Array.getElem?_eq_getElem (by omega)]; rfl
    · simp [World.frozen?, hb]
  · cases h
theorem putRow_is (w : World) (b : Nat) (X : Array Value) : ∃ w' : World, w' = w.setCells b 0 X.toList := ⟨_, rfl⟩
noncomputable def putRow (w : World) (b : Nat) (X : Array Value) : World := Classical.choose (putRow_is w b X)
theorem putRow_eq (w : World) (b : Nat) (X : Array Value) : putRow w b X = w.setCells b 0 X.toList := Classical.choose_spec (putRow_is w b X)
def putList : Array Value → Nat → List Value → Array Value
  | Y, _, [] => Y
  | Y, o, v :: r => putList (Y.setIfInBounds o v) (o + 1) r
theorem setCells_new (w : World) (t : TypeId) : ∀ (vs : List Value) (o : Nat) (Y : Array Value), (w.alloc (.cells Y t)).setCells w.heap.size o vs = w.alloc (.cells (putList Y o vs) t)
  | [], _, _ => rfl
  | v :: r, o, Y => by
    rw [World.setCells, World.setCell_alloc_new, setCells_new w t r, putList]
theorem putList_size : ∀ (vs : List Value) (o : Nat) (Y : Array Value), (putList Y o vs).size = Y.size
  | [], _, _ => rfl
  | v :: r, o, Y => by rw [putList, putList_size r]; simp
theorem putList_at : ∀ (vs : List Value) (o : Nat) (Y : Array Value) (k : Nat), k < Y.size → (putList Y o vs)[k]? = if o ≤ k ∧ k < o + vs.length then vs[k - o]? else Y[k]?
  | [], o, Y, k, _ => by simp [putList]; intros; omega
  | v :: r, o, Y, k, hk => by
    rw [putList, putList_at r (o + 1) _ k (by simpa using hk)]
    by_cases h1 : o + 1 ≤ k ∧ k < o + 1 + r.length
    · rw [if_pos h1, if_pos (by simp; omega), show k - o = (k - (o + 1)) + 1 by omega]; simp
    · rw [if_neg h1]
      by_cases h2 : k = o
      · subst h2; rw [if_pos (by simp)]; simp [hk]
      · rw [if_neg (by simp; omega)]; simp [Ne.symm h2]
theorem putList_all (X Y : Array Value) (h : Y.size = X.size) : putList Y 0 X.toList = X := by
  apply Array.ext_getElem?
  intro k
  by_cases hk : k < Y.size
  · rw [putList_at _ _ _ _ hk, if_pos (by simp; omega)]; simp
  · rw [Array.getElem?_eq_none (by rw [putList_size]; omega), Array.getElem?_eq_none (by omega)]
theorem putRow_new (w : World) (t : TypeId) (X Y : Array Value) (k : Nat) (hk : k = w.heap.size) (h : Y.size = X.size) : putRow (w.alloc (.cells Y t)) k X = w.alloc (.cells X t) := by
  subst hk
  rw [putRow_eq, setCells_new, putList_all X Y h]
theorem rowAt_at (w : World) (X : Array Value) (t : TypeId) (fr : Nat × Nat) (k : Nat) (hk : k = w.heap.size) : rowAt (w.alloc (.cells X t fr)) k = some X := by subst hk; exact rowAt_new w X t fr
theorem setCells_past (o : Obj) (b : Nat) : ∀ (vs : List Value) (k : Nat) (w : World), b < w.heap.size → (w.alloc o).setCells b k vs = (w.setCells b k vs).alloc o
  | [], _, _, _ => rfl
  | v :: r, k, w, h => by
    rw [World.setCells, World.setCells, World.setCell_alloc_past _ _ _ _ h, setCells_past o b r (k + 1) _ (by simpa using h)]
theorem putRow_past (w : World) (o : Obj) (b : Nat) (X : Array Value) (h : b < w.heap.size) : putRow (w.alloc o) b X = (putRow w b X).alloc o := by rw [putRow_eq, putRow_eq]; exact setCells_past o b _ _ _ h
theorem setCells_drew (b : Nat) : ∀ (vs : List Value) (k : Nat) (w : World), w.drew.setCells b k vs = (w.setCells b k vs).drew
  | [], _, _ => rfl
  | v :: r, k, w => by rw [World.setCells, World.setCells, World.setCell_drew, setCells_drew b r]
theorem alloc_drewN (w : World) (n : Nat) (o : Obj) : (w.drewN n).alloc o = (w.alloc o).drewN n := rfl
theorem setCell_drewN (w : World) (n : Nat) (a : Addr) (v : Value) : (w.drewN n).setCell a v = (w.setCell a v).drewN n := rfl
theorem setCells_drewN (n b : Nat) : ∀ (vs : List Value) (k : Nat) (w : World), (w.drewN n).setCells b k vs = (w.setCells b k vs).drewN n
  | [], _, _ => rfl
  | v :: r, k, w => by rw [World.setCells, World.setCells, setCell_drewN, setCells_drewN n b r]
theorem putRow_drewN (w : World) (n b : Nat) (X : Array Value) : putRow (w.drewN n) b X = (putRow w b X).drewN n := by rw [putRow_eq, putRow_eq]; exact setCells_drewN n b _ _ _
theorem below_setCells {B : Nat} {a : World} (b : Nat) (hb : B ≤ b) : ∀ (vs : List Value) (k : Nat) (w : World), Below B a w → Below B a (w.setCells b k vs)
  | [], _, _, h => h
  | v :: r, k, w, h => by rw [World.setCells]; exact below_setCells b hb r (k + 1) _ (h.setCell (by simpa using hb) _)
theorem below_put {B : Nat} {a w : World} (h : Below B a w) (b : Nat) (hb : B ≤ b) (X : Array Value) : Below B a (putRow w b X) := by
  rw [putRow_eq]; exact below_setCells b hb _ _ _ h
theorem setCells_heap {b : Nat} {t : TypeId} {fr : Nat × Nat} : ∀ (vs : List Value) (k : Nat) (w : World) (Y : Array Value), w.heap[b]? = some (.cells Y t fr) → (w.setCells b k vs).heap[b]? = some (.cells (putList Y k vs) t fr)
  | [], _, _, _, h => h
  | v :: r, k, w, Y, h => by rw [World.setCells, putList]; exact setCells_heap r (k + 1) _ _ (Go.Joins.block_setCell h v)
theorem rowAt_put {w : World} {b : Nat} {X : Array Value} (h : roomAt w b X.size = true) : rowAt (putRow w b X) b = some X := by
  unfold roomAt at h
  split at h
  · rename_i Y t fr hb
    simp only [Bool.and_eq_true, beq_iff_eq] at h
    rw [putRow_eq]
    unfold rowAt
    rw [setCells_heap _ _ _ _ hb, putList_all X Y h.1]
  · cases h
theorem size_setCells (b : Nat) : ∀ (vs : List Value) (k : Nat) (w : World), (w.setCells b k vs).heap.size = w.heap.size
  | [], _, _ => rfl
  | v :: r, k, w => by rw [World.setCells, size_setCells b r]; simp
theorem size_put (w : World) (b : Nat) (X : Array Value) : (putRow w b X).heap.size = w.heap.size := by rw [putRow_eq]; exact size_setCells b _ _ _
theorem putRow_drew (w : World) (b : Nat) (X : Array Value) : putRow w.drew b X = (putRow w b X).drew := by rw [putRow_eq, putRow_eq]; exact setCells_drew b _ _ _

theorem roomSec_new (w : World) (f : Nat → Int) (t : TypeId) (k : Nat) (hk : k = w.heap.size) : roomAt (w.alloc (.cells (sec f) t)) k 1024 = true := roomAt_new w _ t _ k hk (sec_size f)
theorem putSec_new (w : World) (t : TypeId) (f g : Nat → Int) (k : Nat) (hk : k = w.heap.size) : putRow (w.alloc (.cells (sec g) t)) k (sec f) = w.alloc (.cells (sec f) t) := putRow_new w t _ _ k hk ((sec_size g).trans (sec_size f).symm)
theorem rowSec_put (w : World) (b : Nat) (f : Nat → Int) (h : roomAt w b 1024 = true) : rowAt (putRow w b (sec f)) b = some (sec f) := rowAt_put (by rw [sec_size]; exact h)

theorem Tryz.infoSec : (Tryz.prog.info? 80).map (fun i => (i.zero, i.size)) = some (some (.agg (sec fun _ => 0)), 1024) := by kernel_rfl
theorem zeroSec (w : World) : (zeroValue 80).run Tryz.prog w = .ok (.agg (sec fun _ => 0)) w := (zero_of_info Tryz.infoSec).1 w
theorem Tryz.sizeSec : (Tryz.prog.info? 80).map (·.size) = some 1024 := (zero_of_info Tryz.infoSec).2
def loadSec (a : Addr) : Sem Value := loadVar 80 a
theorem loadSec_seal (a : Addr) : loadVar 80 a = loadSec a := rfl
theorem loadSec_run (w : World) (b : Nat) : (loadSec ⟨b, 0, none⟩).run Tryz.prog w = (match rowAt w b with
    | some X => if X.size = 1024 then .ok (.agg X) w else (loadSec ⟨b, 0 + 0, none⟩).run Tryz.prog w
    | none => (loadSec ⟨b, 0 + 0, none⟩).run Tryz.prog w) := by
  split
  · rename_i X hX
    split
    · rename_i hs
      have hl : X.toList.length = 1024 := by simpa using hs
      have := run_loadVar_mid (P := Tryz.prog) w b 0 80 X.toList _ (fun j v hv => by rw [Nat.zero_add, rowAt_cell hX]; simpa using hv) Tryz.underlying80 rfl (by rw [hl]; exact Tryz.sizeSec)
      simpa [loadSec] using this
    · rfl
  · rfl
def storeSec (a : Addr) (v : Value) : Sem Unit := storeVar 80 a v
theorem storeSec_seal (a : Addr) (v : Value) : storeVar 80 a v = storeSec a v := rfl
theorem storeSec_run (w : World) (b : Nat) (f : Nat → Int) (h : roomAt w b 1024 = true) : (storeSec ⟨b, 0, none⟩ (.agg (sec f))).run Tryz.prog w = .ok () (putRow w b (sec f)) := by
  rw [putRow_eq]; exact run_storeVar_mid w b 0 80 (sec f) (room_there (by rw [sec_size]; exact h)) (by rw [sec_size]; exact Tryz.sizeSec) (all_oneCell_toArray (row_one f 1024))

/-! How two sectors are held against each other. -/
def litsN (f : Nat → Int) (n : Nat) : List Lit := (List.range n).map fun i => .int .u8 (f i)
def litsOf (f : Nat → Int) : List Lit := litsN f 1024
theorem litsN_iff (f g : Nat → Int) (n : Nat) : litsN f n = litsN g n ↔ ∀ i, i < n → f i = g i := by
  constructor
  · intro h i hi
    have := congrArg (fun l => l[i]?) h
    simpa [litsN, hi] using this
  · intro h
    exact List.map_congr_left fun i hi => by rw [h i (List.mem_range.1 hi)]
theorem lits_iff (f g : Nat → Int) : litsOf f = litsOf g ↔ ∀ i, i < 1024 → f i = g i := litsN_iff f g 1024
theorem wf_u8 {z : Int} (h : 0 ≤ z ∧ z ≤ 255) : (Lit.int .u8 z).wf = true := by simpa [Lit.wf, IntKind.min, IntKind.max, IntKind.signed, IntKind.bits] using h
theorem Tryz.cellsS : Tryz.prog.cellsOf 80 = 1024 := by kernel_rfl
theorem Tryz.cells5 : Tryz.prog.cellsOf 5 = 1 := by kernel_rfl
theorem mapM_all {α β : Type} {g : α → Option β} {h : α → β} : ∀ {l : List α}, (∀ x ∈ l, g x = some (h x)) → l.mapM g = some (l.map h)
  | [], _ => rfl
  | a :: r, hg => by
    rw [List.mapM_cons, hg a (by simp), mapM_all (l := r) (fun x hx => hg x (by simp [hx]))]; rfl
theorem kl_sec (f : Nat → Int) (h : ByteF f) : Tryz.prog.keyLits 2 80 (sec f).toList = some (litsOf f) := by
  unfold Program.keyLits
  rw [Tryz.underlying80]
  simp only []
  rw [sec_toList, if_pos ((rowOf_len f 1024).trans Tryz.cellsS.symm), mapM_all (h := fun i => [Lit.int .u8 (f i)])]
  · show some (List.flatten _) = _
    rw [flat1]; rfl
  · intro i hi
    have hi := List.mem_range.1 hi
    rw [Tryz.cells5, Nat.mul_one]
    have e : ((rowOf f 1024).drop i).take 1 = [.int .u8 (f i)] := by
      have := rowOf_at f hi
      rw [List.take_one, List.head?_drop, this]; rfl
    rw [e]
    simp [Program.keyLits, Tryz.underlying5, wf_u8 (h i hi)]
def eqlSec (x y : Value) : Sem Value := binOp .eql 80 x y
theorem eqlSec_seal (x y : Value) : binOp .eql 80 x y = eqlSec x y := rfl
theorem formed_sec (f : Nat → Int) : (Value.agg (sec f)).formed Tryz.prog 80 = true := by
  simp [Value.formed, Tryz.underlying80, Tryz.cellsS, sec_size]
theorem eql_sec (f g : Nat → Int) (hf : ByteF f) (hg : ByteF g) : ∃ r : Bool, (∀ w, (eqlSec (.agg (sec f)) (.agg (sec g))).run Tryz.prog w = .ok (.bool r) w) ∧ (r = true ↔ ∀ i, i < 1024 → f i = g i) := by
  have key : ∀ w, ∃ r : Bool, (Op.equalIn 10000 80 (.agg (sec f)) (.agg (sec g))).run Tryz.prog w = .ok r w ∧ (r = true ↔ litsOf f = litsOf g) := fun w =>
    run_equalIn_deep 9998 2 80 (by kernel_rfl) w 2 2 (.agg (sec f)) (.agg (sec g)) (litsOf f) (litsOf g) (formed_sec f) (formed_sec g) (kl_sec f hf) (kl_sec g hg)
  by_cases h : litsOf f = litsOf g
  · refine ⟨true, fun w => ?_, by rw [← lits_iff]; simp [h]⟩
    obtain ⟨r, hr, hi⟩ := key w
    rw [eqlSec, run_eql_struct, hr, hi.2 h]; rfl
  · refine ⟨false, fun w => ?_, by rw [← lits_iff]; simp [h]⟩
    obtain ⟨r, hr, hi⟩ := key w
    have : r = false := by
      cases r
      · rfl
      · exact absurd (hi.1 rfl) h
    rw [eqlSec, run_eql_struct, hr, this]; rfl
theorem ret_cell1 {P : Program} {fn : Func} {R : Ending → World → Prop} {a : Act} {w : World} {p : Tmp} {ty : TypeId} {ad : Addr} {v : Value} (h : fn.results = #[.cell p ty]) (hp : a.tmps.getD p undef = .pointer (some ad)) (hl : (loadVar ty ad).run P w = .ok v w) (hd : a.defers = []) (hR : R (.returned v) w) : bodyPost P fn R .ret a w := by
  refine bodyPost_ret (v := v) ?_ hd hR
  have hp' : a.tmps[p]?.getD undef = .pointer (some ad) := by simpa using hp
  simp only [results, h]
  simp [hp', asAddr, hl]
theorem ret_cell_tmp {P : Program} {fn : Func} {R : Ending → World → Prop} {a : Act} {w : World} {p q : Tmp} {ty : TypeId} {ad : Addr} {v : Value} (h : fn.results = #[.cell p ty, .tmp q]) (hp : a.tmps.getD p undef = .pointer (some ad)) (hl : (loadVar ty ad).run P w = .ok v w) (hd : a.defers = []) (hR : R (.returned (.tuple #[v, a.tmps.getD q undef])) w) : bodyPost P fn R .ret a w := by
  refine bodyPost_ret (v := .tuple #[v, a.tmps.getD q undef]) ?_ hd hR
  have hp' : a.tmps[p]?.getD undef = .pointer (some ad) := by simpa using hp
  simp only [results, h]
  simp [hp', asAddr, hl]
theorem ret_cell_tmp2 {P : Program} {fn : Func} {R : Ending → World → Prop} {a : Act} {w : World} {p q r : Tmp} {ty : TypeId} {ad : Addr} {v : Value} (h : fn.results = #[.cell p ty, .tmp q, .tmp r]) (hp : a.tmps.getD p undef = .pointer (some ad)) (hl : (loadVar ty ad).run P w = .ok v w) (hd : a.defers = []) (hR : R (.returned (.tuple #[v, a.tmps.getD q undef, a.tmps.getD r undef])) w) : bodyPost P fn R .ret a w := by
  refine bodyPost_ret (v := .tuple #[v, a.tmps.getD q undef, a.tmps.getD r undef]) ?_ hd hR
  have hp' : a.tmps[p]?.getD undef = .pointer (some ad) := by simpa using hp
  simp only [results, h]
  simp [hp', asAddr, hl]
end Go.Proofs.YtmjflbleobmjdaaGreatDoor
