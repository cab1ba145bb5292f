/-
  Tokens as plain data, and how they lie in memory; the tables of keywords and signs.
-/
import Derived.Test.YtllhcjmabhempaaDoorRem
import Derived.Deep.WholeRow
import Derived.Lib.SmallJoins
namespace Go.Proofs.YtllhcjmabhempaaDoor
set_option linter.unusedVariables false
set_option linter.unusedSimpArgs false
open Go.ChangeShapes Go.WideShapes Go.ChangeAt Go.RowKit

structure Tk where
  k : Int
  t : ByteArray
  n : Int
  p : Int
def Tk.cells (i : Tk) : Array Value := #[.int .i64 i.k, .string i.t, .int .i64 i.n, .int .i64 i.p]
theorem Tk.at0 (c : Tk) : c.cells[0]? = some (.int .i64 c.k) := rfl
theorem Tk.at1 (c : Tk) : c.cells[1]? = some (.string c.t) := rfl
theorem Tk.at2 (c : Tk) : c.cells[2]? = some (.int .i64 c.n) := rfl
theorem Tk.at3 (c : Tk) : c.cells[3]? = some (.int .i64 c.p) := rfl
theorem Tk.size (c : Tk) : c.cells.size = 4 := rfl
theorem Tk.set0 (c : Tk) (x : Int) : c.cells.setIfInBounds 0 (.int .i64 x) = { c with k := x }.cells := rfl
theorem Tk.set1 (c : Tk) (x : ByteArray) : c.cells.setIfInBounds 1 (.string x) = { c with t := x }.cells := rfl
theorem Tk.set2 (c : Tk) (x : Int) : c.cells.setIfInBounds 2 (.int .i64 x) = { c with n := x }.cells := rfl
theorem Tk.set3 (c : Tk) (x : Int) : c.cells.setIfInBounds 3 (.int .i64 x) = { c with p := x }.cells := rfl
theorem Tk.ne (c : Tk) : (c.cells = #[]) = False := by simp [Tk.cells]
theorem Tk.fold (k : Int) (t : ByteArray) (n p : Int) : #[.int .i64 k, .string t, .int .i64 n, .int .i64 p] = ({ k := k, t := t, n := n, p := p } : Tk).cells := rfl

/-! How a whole struct is loaded: by its block, not cell by cell. -/
def rowAt (w : World) (b : Nat) : Option (Array Value) := match w.heap[b]? with
  | some (.cells cs _ _) => some cs
  | _ => none
theorem rowAt_new (w : World) (X : Array Value) (t : TypeId) (fr : Nat × Nat) : rowAt (w.alloc (.cells X t fr)) w.heap.size = some X := by
  have : (w.alloc (.cells X t fr)).heap[w.heap.size]? = some (.cells X t fr) := by
    show (w.heap.push _)[w.heap.size]? = _
    simp
  simp only [rowAt, this]
theorem rowAt_old (w : World) (o : Obj) (b : Nat) (h : b ≠ w.heap.size) : rowAt (w.alloc o) b = rowAt w b := by
  have : (w.alloc o).heap[b]? = w.heap[b]? := by
    show (w.heap.push _)[b]? = _
    rw [Array.getElem?_push]; simp [h]
  simp only [rowAt, this]
theorem rowAt_drew (w : World) (b : Nat) : rowAt w.drew b = rowAt w b := rfl
theorem rowAt_drewN (w : World) (n b : Nat) : rowAt (w.drewN n) b = rowAt w b := rfl
theorem rowAt_cell {w : World} {b : Nat} {X : Array Value} (h : rowAt w b = some X) (i : Nat) : w.cell? ⟨b, i, none⟩ = X[i]? := by
  unfold rowAt at h
  split at h
  · rename_i hb
    cases h
    simp [World.cell?, hb]
  · cases h
theorem rowAt_below {B : Nat} {w w' : World} (hb : Below B w w') (b : Nat) (h : b < B) : rowAt w' b = rowAt w b := by
  unfold rowAt; rw [hb.block b h]
def stuckLoad (t : TypeId) (a : Addr) : Sem Value := loadVar t a
def roomAt (w : World) (b n : Nat) : Bool := match w.heap[b]? with
  | some (.cells Y _ fr) => Y.size == n && fr == (0, 0)
  | _ => false
theorem roomAt_new (w : World) (X : Array Value) (t : TypeId) (n k : Nat) (hk : k = w.heap.size) (h : X.size = n) : roomAt (w.alloc (.cells X t)) k n = true := by
  subst hk
  have : (w.alloc (.cells X t)).heap[w.heap.size]? = some (.cells X t) := by
    show (w.heap.push _)[w.heap.size]? = _
    simp
  simp only [roomAt, this]; simp [h]
theorem roomAt_old (w : World) (o : Obj) (b n : Nat) (h : b < w.heap.size) : roomAt (w.alloc o) b n = roomAt w b n := by
  have : (w.alloc o).heap[b]? = w.heap[b]? := by
    show (w.heap.push _)[b]? = _
    rw [Array.getElem?_push]; simp [Nat.ne_of_lt h]
  simp only [roomAt, this]
theorem roomAt_drew (w : World) (b n : Nat) : roomAt w.drew b n = roomAt w b n := rfl
theorem roomAt_drewN (w : World) (k b n : Nat) : roomAt (w.drewN k) b n = roomAt w b n := rfl
theorem roomAt_below {B : Nat} {w w' : World} (hb : Below B w w') (b n : Nat) (h : b < B) : roomAt w' b n = roomAt w b n := by
  unfold roomAt; rw [hb.block b h]
theorem room_there {w : World} {b n : Nat} (h : roomAt w b n = true) : w.there b 0 n := by
  unfold roomAt at h
  split at h
  · rename_i Y t fr hb
    simp only [Bool.and_eq_true, beq_iff_eq] at h
    obtain ⟨h1, h2⟩ := h
    subst h2
    intro j hj
    refine ⟨?_, ?_⟩
    · rw [Nat.zero_add, show w.cell? ⟨b, j, none⟩ = Y[j]? by simp [World.cell?, hb], Array.getElem?_eq_getElem (by omega)]; rfl
    · simp [World.frozen?, hb]
  · cases h
theorem putRow_is (w : World) (b : Nat) (X : Array Value) : ∃ w' : World, w' = w.setCells b 0 X.toList := ⟨_, rfl⟩
noncomputable def putRow (w : World) (b : Nat) (X : Array Value) : World := Classical.choose (putRow_is w b X)
theorem putRow_eq (w : World) (b : Nat) (X : Array Value) : putRow w b X = w.setCells b 0 X.toList := Classical.choose_spec (putRow_is w b X)
def putList : Array Value → Nat → List Value → Array Value
  | Y, _, [] => Y
  | Y, o, v :: r => putList (Y.setIfInBounds o v) (o + 1) r
theorem setCells_new (w : World) (t : TypeId) : ∀ (vs : List Value) (o : Nat) (Y : Array Value), (w.alloc (.cells Y t)).setCells w.heap.size o vs = w.alloc (.cells (putList Y o vs) t)
  | [], _, _ => rfl
  | v :: r, o, Y => by
    rw [World.setCells, World.setCell_alloc_new, setCells_new w t r, putList]
theorem putList_size : ∀ (vs : List Value) (o : Nat) (Y : Array Value), (putList Y o vs).size = Y.size
  | [], _, _ => rfl
  | v :: r, o, Y => by rw [putList, putList_size r]; simp
theorem putList_at : ∀ (vs : List Value) (o : Nat) (Y : Array Value) (k : Nat), k < Y.size → (putList Y o vs)[k]? = if o ≤ k ∧ k < o + vs.length then vs[k - o]? else Y[k]?
  | [], o, Y, k, _ => by simp [putList]; intros; omega
  | v :: r, o, Y, k, hk => by
    rw [putList, putList_at r (o + 1) _ k (by simpa using hk)]
    by_cases h1 : o + 1 ≤ k ∧ k < o + 1 + r.length
    · rw [if_pos h1, if_pos (by simp; omega), show k - o = (k - (o + 1)) + 1 by omega]; simp
    · rw [if_neg h1]
      by_cases h2 : k = o
      · subst h2; rw [if_pos (by simp)]; simp [hk]
      · rw [if_neg (by simp; omega)]; simp [Ne.symm h2]
theorem putList_all (X Y : Array Value) (h : Y.size = X.size) : putList Y 0 X.toList = X := by
  apply Array.ext_getElem?
  intro k
  by_cases hk : k < Y.size
  · rw [putList_at _ _ _ _ hk, if_pos (by simp; omega)]; simp
  · rw [Array.getElem?_eq_none (by rw [putList_size]; omega), Array.getElem?_eq_none (by omega)]
theorem putRow_new (w : World) (t : TypeId) (X Y : Array Value) (k : Nat) (hk : k = w.heap.size) (h : Y.size = X.size) : putRow (w.alloc (.cells Y t)) k X = w.alloc (.cells X t) := by
  subst hk
  rw [putRow_eq, setCells_new, putList_all X Y h]
theorem putTk_new (w : World) (t : TypeId) (c d : Tk) (k : Nat) (hk : k = w.heap.size) : putRow (w.alloc (.cells d.cells t)) k c.cells = w.alloc (.cells c.cells t) := putRow_new w t _ _ k hk rfl
theorem roomTk_new (w : World) (c : Tk) (t : TypeId) (k : Nat) (hk : k = w.heap.size) : roomAt (w.alloc (.cells c.cells t)) k 4 = true := roomAt_new w _ t _ k hk rfl
theorem rowAt_at (w : World) (X : Array Value) (t : TypeId) (fr : Nat × Nat) (k : Nat) (hk : k = w.heap.size) : rowAt (w.alloc (.cells X t fr)) k = some X := by subst hk; exact rowAt_new w X t fr
theorem setCells_past (o : Obj) (b : Nat) : ∀ (vs : List Value) (k : Nat) (w : World), b < w.heap.size → (w.alloc o).setCells b k vs = (w.setCells b k vs).alloc o
  | [], _, _, _ => rfl
  | v :: r, k, w, h => by
    rw [World.setCells, World.setCells, World.setCell_alloc_past _ _ _ _ h, setCells_past o b r (k + 1) _ (by simpa using h)]
theorem putRow_past (w : World) (o : Obj) (b : Nat) (X : Array Value) (h : b < w.heap.size) : putRow (w.alloc o) b X = (putRow w b X).alloc o := by rw [putRow_eq, putRow_eq]; exact setCells_past o b _ _ _ h
theorem setCells_drew (b : Nat) : ∀ (vs : List Value) (k : Nat) (w : World), w.drew.setCells b k vs = (w.setCells b k vs).drew
  | [], _, _ => rfl
  | v :: r, k, w => by rw [World.setCells, World.setCells, World.setCell_drew, setCells_drew b r]
theorem alloc_drewN (w : World) (n : Nat) (o : Obj) : (w.drewN n).alloc o = (w.alloc o).drewN n := rfl
theorem setCell_drewN (w : World) (n : Nat) (a : Addr) (v : Value) : (w.drewN n).setCell a v = (w.setCell a v).drewN n := rfl
theorem setCells_drewN (n b : Nat) : ∀ (vs : List Value) (k : Nat) (w : World), (w.drewN n).setCells b k vs = (w.setCells b k vs).drewN n
  | [], _, _ => rfl
  | v :: r, k, w => by rw [World.setCells, World.setCells, setCell_drewN, setCells_drewN n b r]
theorem putRow_drewN (w : World) (n b : Nat) (X : Array Value) : putRow (w.drewN n) b X = (putRow w b X).drewN n := by rw [putRow_eq, putRow_eq]; exact setCells_drewN n b _ _ _
theorem below_setCells {B : Nat} {a : World} (b : Nat) (hb : B ≤ b) : ∀ (vs : List Value) (k : Nat) (w : World), Below B a w → Below B a (w.setCells b k vs)
  | [], _, _, h => h
  | v :: r, k, w, h => by rw [World.setCells]; exact below_setCells b hb r (k + 1) _ (h.setCell (by simpa using hb) _)
theorem below_put {B : Nat} {a w : World} (h : Below B a w) (b : Nat) (hb : B ≤ b) (X : Array Value) : Below B a (putRow w b X) := by
  rw [putRow_eq]; exact below_setCells b hb _ _ _ h
theorem setCells_heap {b : Nat} {t : TypeId} {fr : Nat × Nat} : ∀ (vs : List Value) (k : Nat) (w : World) (Y : Array Value), w.heap[b]? = some (.cells Y t fr) → (w.setCells b k vs).heap[b]? = some (.cells (putList Y k vs) t fr)
  | [], _, _, _, h => h
  | v :: r, k, w, Y, h => by rw [World.setCells, putList]; exact setCells_heap r (k + 1) _ _ (Go.Joins.block_setCell h v)
theorem rowAt_put {w : World} {b : Nat} {X : Array Value} (h : roomAt w b X.size = true) : rowAt (putRow w b X) b = some X := by
  unfold roomAt at h
  split at h
  · rename_i Y t fr hb
    simp only [Bool.and_eq_true, beq_iff_eq] at h
    rw [putRow_eq]
    unfold rowAt
    rw [setCells_heap _ _ _ _ hb, putList_all X Y h.1]
  · cases h
theorem size_setCells (b : Nat) : ∀ (vs : List Value) (k : Nat) (w : World), (w.setCells b k vs).heap.size = w.heap.size
  | [], _, _ => rfl
  | v :: r, k, w => by rw [World.setCells, size_setCells b r]; simp
theorem size_put (w : World) (b : Nat) (X : Array Value) : (putRow w b X).heap.size = w.heap.size := by rw [putRow_eq]; exact size_setCells b _ _ _
theorem rowTk_put (w : World) (b : Nat) (c : Tk) (h : roomAt w b 4 = true) : rowAt (putRow w b c.cells) b = some c.cells := rowAt_put h
theorem putRow_drew (w : World) (b : Nat) (X : Array Value) : putRow w.drew b X = (putRow w b X).drew := by rw [putRow_eq, putRow_eq]; exact setCells_drew b _ _ _


def loadTk (a : Addr) : Sem Value := loadVar 41 a
theorem loadTk_seal (a : Addr) : loadVar 41 a = loadTk a := rfl
theorem Tryd.sizeTk : (Tryd.prog.info? 41).map (·.size) = some 4 := by kernel_rfl
theorem loadTk_run (w : World) (b : Nat) : (loadTk ⟨b, 0, none⟩).run Tryd.prog w = (match rowAt w b with
    | some X => if X.size = 4 then .ok (.agg X) w else (loadTk ⟨b, 0 + 0, none⟩).run Tryd.prog w
    | none => (loadTk ⟨b, 0 + 0, none⟩).run Tryd.prog w) := by
  split
  · rename_i X hX
    split
    · rename_i hs
      have hl : X.toList.length = 4 := by simpa using hs
      have := run_loadVar_mid (P := Tryd.prog) w b 0 41 X.toList _ (fun j v hv => by rw [Nat.zero_add, rowAt_cell hX]; simpa using hv) Tryd.underlying41 rfl (by rw [hl]; exact Tryd.sizeTk)
      simpa [loadTk] using this
    · rfl
  · rfl
def storeTk (a : Addr) (v : Value) : Sem Unit := storeVar 41 a v
theorem storeTk_seal (a : Addr) (v : Value) : storeVar 41 a v = storeTk a v := rfl
theorem storeTk_run (w : World) (b : Nat) (c : Tk) (h : roomAt w b 4 = true) : (storeTk ⟨b, 0, none⟩ (.agg c.cells)).run Tryd.prog w = .ok () (putRow w b c.cells) := by
  rw [putRow_eq]; exact run_storeVar_mid w b 0 41 c.cells (room_there h) Tryd.sizeTk (by simp [Tk.cells, Value.oneCell'])
theorem loadTk_row {w : World} {b : Nat} {c : Tk} (h : rowAt w b = some c.cells) : (loadVar 41 ⟨b, 0, none⟩).run Tryd.prog w = .ok (.agg c.cells) w := by
  rw [loadTk_seal, loadTk_run, h]; simp [Tk.size]
theorem ret_cell1 {P : Program} {fn : Func} {R : Ending → World → Prop} {a : Act} {w : World} {p : Tmp} {ty : TypeId} {ad : Addr} {v : Value} (h : fn.results = #[.cell p ty]) (hp : a.tmps.getD p undef = .pointer (some ad)) (hl : (loadVar ty ad).run P w = .ok v w) (hd : a.defers = []) (hR : R (.returned v) w) : bodyPost P fn R .ret a w := by
  refine bodyPost_ret (v := v) ?_ hd hR
  have hp' : a.tmps[p]?.getD undef = .pointer (some ad) := by simpa using hp
  simp only [results, h]
  simp [hp', asAddr, hl]
theorem ret_cell_tmp {P : Program} {fn : Func} {R : Ending → World → Prop} {a : Act} {w : World} {p q : Tmp} {ty : TypeId} {ad : Addr} {v : Value} (h : fn.results = #[.cell p ty, .tmp q]) (hp : a.tmps.getD p undef = .pointer (some ad)) (hl : (loadVar ty ad).run P w = .ok v w) (hd : a.defers = []) (hR : R (.returned (.tuple #[v, a.tmps.getD q undef])) w) : bodyPost P fn R .ret a w := by
  refine bodyPost_ret (v := .tuple #[v, a.tmps.getD q undef]) ?_ hd hR
  have hp' : a.tmps[p]?.getD undef = .pointer (some ad) := by simpa using hp
  simp only [results, h]
  simp [hp', asAddr, hl]
theorem ret_cell_tmp2 {P : Program} {fn : Func} {R : Ending → World → Prop} {a : Act} {w : World} {p q r : Tmp} {ty : TypeId} {ad : Addr} {v : Value} (h : fn.results = #[.cell p ty, .tmp q, .tmp r]) (hp : a.tmps.getD p undef = .pointer (some ad)) (hl : (loadVar ty ad).run P w = .ok v w) (hd : a.defers = []) (hR : R (.returned (.tuple #[v, a.tmps.getD q undef, a.tmps.getD r undef])) w) : bodyPost P fn R .ret a w := by
  refine bodyPost_ret (v := .tuple #[v, a.tmps.getD q undef, a.tmps.getD r undef]) ?_ hd hR
  have hp' : a.tmps[p]?.getD undef = .pointer (some ad) := by simpa using hp
  simp only [results, h]
  simp [hp', asAddr, hl]
theorem rowAt_set (w : World) (b o : Nat) (v : Value) (X : Array Value) (h : rowAt w b = some X) : rowAt (w.setCell ⟨b, o, none⟩ v) b = some (X.setIfInBounds o v) := by
  unfold rowAt at h ⊢
  split at h
  · rename_i cs t fr hb
    cases h
    rw [Go.Joins.block_setCell hb v]
  · cases h
theorem rowAt_far (w : World) (a : Addr) (v : Value) (b : Nat) (h : b ≠ a.block) : rowAt (w.setCell a v) b = rowAt w b := by
  unfold rowAt; rw [Below.heap_setCell w a v b h]
theorem roomAt_far (w : World) (a : Addr) (v : Value) (b n : Nat) (h : b ≠ a.block) : roomAt (w.setCell a v) b n = roomAt w b n := by
  unfold roomAt; rw [Below.heap_setCell w a v b h]
/-- A token that lies in a block: its cells, which may be written. -/
theorem row_facts {w : World} {b : Nat} {c : Tk} (h : rowAt w b = some c.cells) (hr : roomAt w b 4 = true) : (∀ j, w.cell? ⟨b, j, none⟩ = c.cells[j]?) ∧ (∀ j, j < 4 → w.frozen? ⟨b, j, none⟩ = false) :=
  ⟨rowAt_cell h, fun j hj => by have := (room_there hr j hj).2; rwa [Nat.zero_add] at this⟩

/-- The table of keywords, the table of signs: their cells. -/
def strs (l : List Bs) : List Value := l.map fun x => .string (bs x)
theorem strs_len (l : List Bs) : (strs l).length = l.length := by simp [strs]
theorem strs_at {l : List Bs} {j : Nat} (h : j < l.length) : (strs l)[j]? = some (.string (bs l[j])) := by simp [strs, h]
theorem strsV_is (l : List Bs) : ∃ v : Value, v = .agg (strs l).toArray := ⟨_, rfl⟩
noncomputable def strsV (l : List Bs) : Value := Classical.choose (strsV_is l)
theorem strsV_eq (l : List Bs) : strsV l = .agg (strs l).toArray := Classical.choose_spec (strsV_is l)
structure KVars (w : World) : Prop where
  big : 2 ≤ w.heap.size
  keys : ∀ o (h : o < keysL.length), w.cell? ⟨1, o, none⟩ = some (.string (bs keysL[o]))
structure Vars (w : World) : Prop extends KVars w where
  big2 : 2 ≤ w.heap.size
  signs : ∀ o (h : o < signsL.length), w.cell? ⟨0, o, none⟩ = some (.string (bs signsL[o]))
theorem KVars.below {B : Nat} {w w' : World} (h : KVars w) (hb : Below B w w') (hB : 2 ≤ B) : KVars w' where
  big := Nat.le_trans h.big hb.size
  keys := fun o ho => (hb.cell (p := ⟨1, _, none⟩) (by show 1 < B; omega)).trans (h.keys o ho)
theorem Vars.below {B : Nat} {w w' : World} (h : Vars w) (hb : Below B w w') (hB : 2 ≤ B) : Vars w' where
  toKVars := h.toKVars.below hb (by omega)
  big2 := Nat.le_trans h.big2 hb.size
  signs := fun o ho => (hb.cell (p := ⟨0, _, none⟩) (by show 0 < B; omega)).trans (h.signs o ho)
theorem KVars.call {w w' : World} (h : KVars w) (hb : Below w.heap.size w w') : KVars w' := h.below hb h.big
theorem KVars.alloc {w : World} (h : KVars w) (o : Obj) : KVars (w.alloc o) := h.call ((Below.refl _ _).alloc (Nat.le_refl _) _)
theorem Vars.call {w w' : World} (h : Vars w) (hb : Below w.heap.size w w') : Vars w' := h.below hb h.big2
theorem Vars.alloc {w : World} (h : Vars w) (o : Obj) : Vars (w.alloc o) := h.call ((Below.refl _ _).alloc (Nat.le_refl _) _)
theorem Vars.drewN {w : World} (h : Vars w) (n : Nat) : Vars (w.drewN n) := h.call (below_drewN (Below.refl _ _) n)
def loadKeys (a : Addr) : Sem Value := loadVar 73 a
theorem loadKeys_seal (a : Addr) : loadVar 73 a = loadKeys a := rfl
def loadSigns (a : Addr) : Sem Value := loadVar 67 a
theorem loadSigns_seal (a : Addr) : loadVar 67 a = loadSigns a := rfl
theorem keys_len : keysL.length = 32 := rfl
theorem signs_len : signsL.length = 26 := rfl
theorem KVars.loadKeys {w : World} (h : KVars w) : (loadKeys ⟨1, 0, none⟩).run Tryd.prog w = .ok (strsV keysL) w := by
  rw [strsV_eq]
  exact run_loadVar_mid (P := Tryd.prog) w 1 0 73 (strs keysL) _ (fun j v hv => by
    have hj : j < keysL.length := by have := (List.getElem?_eq_some_iff.1 hv).1; rwa [strs_len] at this
    rw [strs_at hj] at hv
    rw [Nat.zero_add, h.keys j hj, hv]) Tryd.underlying73 rfl (by rw [strs_len]; kernel_rfl)
theorem Vars.loadSigns {w : World} (h : Vars w) : (loadSigns ⟨0, 0, none⟩).run Tryd.prog w = .ok (strsV signsL) w := by
  rw [strsV_eq]
  exact run_loadVar_mid (P := Tryd.prog) w 0 0 67 (strs signsL) _ (fun j v hv => by
    have hj : j < signsL.length := by have := (List.getElem?_eq_some_iff.1 hv).1; rwa [strs_len] at this
    rw [strs_at hj] at hv
    rw [Nat.zero_add, h.signs j hj, hv]) Tryd.underlying67 rfl (by rw [strs_len]; kernel_rfl)
attribute [go_sem ↓] loadTk_seal storeTk_seal loadKeys_seal loadSigns_seal
attribute [go_sem] loadTk_run storeTk_run rowAt_at rowAt_old rowAt_drew rowAt_drewN roomTk_new roomAt_old roomAt_drew roomAt_drewN putTk_new Tk.fold putRow_past rowTk_put size_put putRow_drew putRow_drewN alloc_drewN setCell_drewN Tk.at0 Tk.at1 Tk.at2 Tk.at3 Tk.size Tk.set0 Tk.set1 Tk.set2 Tk.set3 Tk.ne rowAt_set rowAt_far roomAt_far
end Go.Proofs.YtllhcjmabhempaaDoor
