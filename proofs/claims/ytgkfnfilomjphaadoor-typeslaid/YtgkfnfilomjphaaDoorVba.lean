/-
  Layer 11: blocks, rows and boxes of the calls' own.
-/
import Derived.Test.YtgkfnfilomjphaaDoorRows
import Derived.WalkKit
import Derived.ProofKit
import Derived.OpenShut
import Derived.ShutString
import Derived.OwnWalk
import Derived.Deep.QuietTactic
import Derived.BigQuiet
import Derived.Deep.RegionHeld3
import Derived.Deep.LoopGhost
import Derived.Lib.SmallJoins
import Derived.Handy
import Derived.Deep.MidRow
import Derived.Deep.CutBlock
import Derived.Deep.CutRange
import Derived.Deep.DeepAppendWide
import Derived.Laws.OwnMore
namespace Go.Proofs.YtgkfnfilomjphaaDoor
set_option linter.unusedVariables false
set_option linter.unusedSimpArgs false
open Go.ChangeShapes Go.WideShapes Go.ChangeAt Go.RowKit

theorem hid_of {p : Prop} (h : p) : Hid p := h
theorem ret_bool {a b : Bool} (h : a = b) : Ending.returned (.bool a) = .returned (.bool b) := by rw [h]
theorem bdn {B : Nat} {a w : World} (h : Below B a w) (n : Nat) : Below B a (w.drewN n) := ⟨h.os, h.tape, h.output, h.size, h.block⟩
theorem blk_new (w : World) (o : Obj) : (w.alloc o).heap[w.heap.size]? = some o := Array.getElem?_push_size
theorem blk_cell {Y : World} {g : Nat} {cs : Array Value} {t : TypeId} (h : Y.heap[g]? = some (.cells cs t (0, 0))) (j : Nat) : Y.cell? ⟨g, j, none⟩ = cs[j]? := by simp [World.cell?, h]
theorem blk_fz {Y : World} {g : Nat} {cs : Array Value} {t : TypeId} (h : Y.heap[g]? = some (.cells cs t (0, 0))) (j : Nat) : Y.frozen? ⟨g, j, none⟩ = false := by simp [World.frozen?, h]
theorem blk_keep {X Y : World} {b g : Nat} {o : Obj} (h : X.heap[g]? = some o) (hg : X.grownBy Y (some b)) (hne : g ≠ b) : Y.heap[g]? = some o :=
  (hg.block g (Array.getElem?_eq_some_iff.1 h).1 (fun e => hne (by injection e))).trans h
theorem gb_trans {w w' w'' : World} {b : Nat} (h : w.grownBy w' (some b)) (h2 : w'.grownBy w'' (some b)) : w.grownBy w'' (some b) :=
  ⟨h2.os.trans h.os, h2.tape.trans h.tape, h2.output.trans h.output, Nat.le_trans h.size h2.size, fun k hk hne => (h2.block k (Nat.lt_of_lt_of_le hk h.size) hne).trans (h.block k hk hne)⟩
theorem gb_of_below {w w' : World} (hb : Below w.heap.size w w') (b : Nat) : w.grownBy w' (some b) := ⟨hb.os, hb.tape, hb.output, hb.size, fun k hk _ => hb.block k hk⟩
theorem gb_set {w w' : World} {b j : Nat} {v : Value} (h : w.grownBy w' (some b)) : w.grownBy (w'.setCell ⟨b, j, none⟩ v) (some b) :=
  ⟨h.os, h.tape, h.output, by simpa using h.size, fun k hk hne => (Below.heap_setCell _ _ _ _ (fun e => hne (by rw [e]))).trans (h.block k hk hne)⟩
theorem gb_own {w X Y : World} {b : Nat} {o : Option Nat} (h : w.grownBy X (some b)) (hg : X.grownBy Y o) (ho : ∀ g, o = some g → w.heap.size ≤ g) : w.grownBy Y (some b) :=
  ⟨hg.os.trans h.os, hg.tape.trans h.tape, hg.output.trans h.output, Nat.le_trans h.size hg.size, fun k hk hne => (hg.block k (Nat.lt_of_lt_of_le hk h.size) (fun e => by have := ho k e.symm; omega)).trans (h.block k hk hne)⟩
theorem own_gb {X Y : World} {B b : Nat} {e : TypeId} {k : Nat} {v : Value} {n : Nat} {xs : List Value} (h : X.ownsRow B e k v n xs) (hb : b < B) (hg : X.grownBy Y (some b)) : Y.ownsRow B e k v n xs := by
  refine ⟨h.1, ?_⟩
  rcases h.2 with hn | ⟨g, cap, cur, hv, hb1, hg1, rest⟩
  · exact .inl hn
  · exact .inr ⟨g, cap, cur, hv, hb1, (hg.block g (Array.getElem?_eq_some_iff.1 hg1).1 (fun e => by injection e with e; omega)).trans hg1, rest⟩
theorem own_lo {X : World} {B : Nat} {e : TypeId} {k : Nat} {v : Value} {n : Nat} {xs : List Value} (h : X.ownsRow B e k v n xs) (g : Nat) (hg : v.ownBlock = some g) : B ≤ g := (h.lt g hg).1
theorem own_slice {X : World} {B : Nat} {e : TypeId} {k : Nat} {v : Value} {n : Nat} {xs : List Value} (h : X.ownsRow B e k v n xs) : ∃ a l c, v = .slice a l c := by
  rcases h.2 with ⟨hv, _⟩ | ⟨g, cap, cur, hv, _⟩
  · exact ⟨_, _, _, hv⟩
  · exact ⟨_, _, _, hv⟩
theorem own_base {X : World} {B B' : Nat} {e : TypeId} {k : Nat} {v : Value} {n : Nat} {xs : List Value} (h : X.ownsRow B e k v n xs) (hB : B' ≤ B) : X.ownsRow B' e k v n xs := by
  refine ⟨h.1, ?_⟩
  rcases h.2 with hn | ⟨g1, cap, cur, hv, hb1, rest⟩
  · exact .inl hn
  · exact .inr ⟨g1, cap, cur, hv, Nat.le_trans hB hb1, rest⟩
/-- A slice. -/
structure Sl where
  a : Option Addr
  n : Nat
  c : Nat
/-- Rows of things of two types lie in two blocks. -/
theorem own_two {X : World} {B B' : Nat} {e e' : TypeId} {k k' : Nat} {v v' : Value} {n n' : Nat} {xs xs' : List Value} (h : X.ownsRow B e k v n xs) (h' : X.ownsRow B' e' k' v' n' xs') (he : e ≠ e') {g : Nat} (hg : v.ownBlock = some g) (hg' : v'.ownBlock = some g) : False := by
  rcases h.2 with ⟨hv, _⟩ | ⟨g1, cap, cur, hv, _, hb, _⟩
  · rw [hv] at hg; cases hg
  · rcases h'.2 with ⟨hv', _⟩ | ⟨g2, cap', cur', hv', _, hb', _⟩
    · rw [hv'] at hg'; cases hg'
    · rw [hv] at hg; rw [hv'] at hg'
      injection hg with e1; injection hg' with e2
      simp only at e1 e2
      rw [e1] at hb; rw [e2] at hb'
      rw [hb] at hb'
      injection hb' with hb'
      injection hb' with _ h3
      exact he h3
theorem own_grow {X Y : World} {B : Nat} {e : TypeId} {k : Nat} {v : Value} {n : Nat} {xs : List Value} {o : Option Nat} (h : X.ownsRow B e k v n xs) (hg : X.grownBy Y o) (hne : ∀ g, v.ownBlock = some g → o ≠ some g) : Y.ownsRow B e k v n xs := by
  refine ⟨h.1, ?_⟩
  rcases h.2 with hn | ⟨g, cap, cur, hv, hb1, hg1, rest⟩
  · exact .inl hn
  · exact .inr ⟨g, cap, cur, hv, hb1, (hg.block g (Array.getElem?_eq_some_iff.1 hg1).1 (fun e => hne g (by rw [hv]; rfl) e.symm)).trans hg1, rest⟩
/-- The cells of a row of things of several. -/
def flat {α : Type} (enc : α → Array Value) (l : List α) : List Value := (l.map fun x => (enc x).toList).flatten
theorem flat_snoc {α : Type} (enc : α → Array Value) (l : List α) (x : α) : flat enc (l ++ [x]) = flat enc l ++ (enc x).toList := by simp [flat]
/-- All but some blocks is as it was. -/
structure Tq (X Y : World) (P : Nat → Prop) : Prop where
  os : Y.os = X.os
  tape : Y.tape = X.tape
  output : Y.output = X.output
  size : X.heap.size ≤ Y.heap.size
  blk : ∀ k, k < X.heap.size → ¬ P k → Y.heap[k]? = X.heap[k]?
theorem Tq.mono {X Y : World} {P Q : Nat → Prop} (h : Tq X Y P) (hpq : ∀ k, k < X.heap.size → P k → Q k) : Tq X Y Q := ⟨h.os, h.tape, h.output, h.size, fun k hk hn => h.blk k hk fun hp => hn (hpq k hk hp)⟩
theorem Tq.trans {X Y Z : World} {P : Nat → Prop} (h : Tq X Y P) (h2 : Tq Y Z P) : Tq X Z P :=
  ⟨h2.os.trans h.os, h2.tape.trans h.tape, h2.output.trans h.output, Nat.le_trans h.size h2.size, fun k hk hp => (h2.blk k (Nat.lt_of_lt_of_le hk h.size) hp).trans (h.blk k hk hp)⟩
theorem Tq.gb {X Y : World} {P : Nat → Prop} {o : Option Nat} (h : X.grownBy Y o) (hp : ∀ k, o = some k → P k) : Tq X Y P := ⟨h.os, h.tape, h.output, h.size, fun k hk hn => h.block k hk fun e => hn (hp k e.symm)⟩
theorem Tq.below {X Y : World} {P : Nat → Prop} (h : Below X.heap.size X Y) : Tq X Y P := ⟨h.os, h.tape, h.output, h.size, fun k hk _ => h.block k hk⟩
theorem Tq.set {X : World} {P : Nat → Prop} {g j : Nat} {v : Value} (hp : P g) : Tq X (X.setCell ⟨g, j, none⟩ v) P := ⟨rfl, rfl, rfl, by simp, fun k hk hn => Below.heap_setCell _ _ _ _ (fun e => hn (e ▸ hp))⟩
theorem Tq.own {X Y : World} {P : Nat → Prop} {B : Nat} {e : TypeId} {k : Nat} {v : Value} {n : Nat} {xs : List Value} (h : Tq X Y P) (ho : X.ownsRow B e k v n xs) (hne : ∀ g, v.ownBlock = some g → ¬ P g) : Y.ownsRow B e k v n xs := by
  refine ⟨ho.1, ?_⟩
  rcases ho.2 with hn | ⟨g, cap, cur, hv, hb1, hg1, rest⟩
  · exact .inl hn
  · exact .inr ⟨g, cap, cur, hv, hb1, (h.blk g (Array.getElem?_eq_some_iff.1 hg1).1 (hne g (by rw [hv]; rfl))).trans hg1, rest⟩
def appN (t : Array TypeId) (r : TypeId) (xs : Array Value) : Sem Value := Builtin.append_ t r xs
theorem appN_seal (t : Array TypeId) (r : TypeId) (xs : Array Value) : Builtin.append_ t r xs = appN t r xs := rfl
def mkN (t : TypeId) (l c : Value) : Sem Value := Instr.makeSlice t l c
theorem mkN_seal (t : TypeId) (l c : Value) : Instr.makeSlice t l c = mkN t l c := rfl
theorem load_blk {w : World} {g : Nat} {cs : Array Value} {ty : TypeId} {d : TypeDesc} (h : w.heap[g]? = some (.cells cs ty (0, 0))) (hu : Tryd.prog.underlying ty = some d) (hd : d.isRow = true) (hi : (Tryd.prog.info? ty).map (·.size) = some cs.size) : (loadVar ty ⟨g, 0, none⟩).run Tryd.prog w = .ok (.agg cs) w := by
  have := run_loadVar_mid (P := Tryd.prog) w g 0 ty cs.toList d (fun j v hv => by rw [Nat.zero_add, blk_cell h j]; simpa using hv) hu hd (by simpa using hi)
  simpa using this
theorem ret_cell1 {P : Program} {fn : Func} {R : Ending → World → Prop} {a : Act} {w : World} {p : Tmp} {ty : TypeId} {ad : Addr} {v : Value} (h : fn.results = #[.cell p ty]) (hp : a.tmps.getD p undef = .pointer (some ad)) (hl : (loadVar ty ad).run P w = .ok v w) (hd : a.defers = []) (hR : R (.returned v) w) : bodyPost P fn R .ret a w := by
  refine bodyPost_ret (v := v) ?_ hd hR
  have hp' : a.tmps[p]?.getD undef = .pointer (some ad) := by simpa using hp
  simp only [results, h]
  simp [hp', asAddr, hl]
theorem ret_cell_tmp {P : Program} {fn : Func} {R : Ending → World → Prop} {a : Act} {w : World} {p q : Tmp} {ty : TypeId} {ad : Addr} {v : Value} (h : fn.results = #[.cell p ty, .tmp q]) (hp : a.tmps.getD p undef = .pointer (some ad)) (hl : (loadVar ty ad).run P w = .ok v w) (hd : a.defers = []) (hR : R (.returned (.tuple #[v, a.tmps.getD q undef])) w) : bodyPost P fn R .ret a w := by
  refine bodyPost_ret (v := .tuple #[v, a.tmps.getD q undef]) ?_ hd hR
  have hp' : a.tmps[p]?.getD undef = .pointer (some ad) := by simpa using hp
  simp only [results, h]
  simp [hp', asAddr, hl]
/-- A struct's cells, in a block of their own. -/
def BA (w : World) (g : Nat) (ty : TypeId) (cs : Array Value) : Prop := w.heap[g]? = some (.cells cs ty (0, 0))
def ldT (ty : TypeId) (a : Addr) : Sem Value := loadVar ty a
def stT (ty : TypeId) (a : Addr) (v : Value) : Sem Unit := storeVar ty a v
theorem BA.new (w : World) (ty : TypeId) (cs : Array Value) : BA (w.alloc (.cells cs ty)) w.heap.size ty cs := blk_new w _
theorem BA.lt {w : World} {g : Nat} {ty : TypeId} {cs : Array Value} (h : BA w g ty cs) : g < w.heap.size := (Array.getElem?_eq_some_iff.1 h).1
theorem BA.below {w w' : World} {g : Nat} {ty : TypeId} {cs : Array Value} (h : BA w g ty cs) (hb : Below w.heap.size w w') : BA w' g ty cs := (hb.block g h.lt).trans h
theorem BA.keep {w w' : World} {g b : Nat} {ty : TypeId} {cs : Array Value} (h : BA w g ty cs) (hg : w.grownBy w' (some b)) (hne : g ≠ b) : BA w' g ty cs := blk_keep h hg hne
theorem BA.set {w : World} {g j : Nat} {ty : TypeId} {cs : Array Value} (h : BA w g ty cs) (v : Value) : BA (w.setCell ⟨g, j, none⟩ v) g ty (cs.setIfInBounds j v) := Go.Joins.block_setCell h v
theorem BA.tq {w w' : World} {g : Nat} {ty : TypeId} {cs : Array Value} {P : Nat → Prop} (h : BA w g ty cs) (t : Tq w w' P) (hp : ¬ P g) : BA w' g ty cs := (t.blk g h.lt hp).trans h
theorem BA.cell {w : World} {g : Nat} {ty : TypeId} {cs : Array Value} (h : BA w g ty cs) (j : Nat) : w.cell? ⟨g, j, none⟩ = cs[j]? := blk_cell h j
theorem BA.fz {w : World} {g : Nat} {ty : TypeId} {cs : Array Value} (h : BA w g ty cs) (j : Nat) : w.frozen? ⟨g, j, none⟩ = false := blk_fz h j
theorem ldT_run {w : World} {g : Nat} {ty : TypeId} {cs : Array Value} {d : TypeDesc} (h : BA w g ty cs) (hu : Tryd.prog.underlying ty = some d) (hd : d.isRow = true) (hi : (Tryd.prog.info? ty).map (·.size) = some cs.size) : (ldT ty ⟨g, 0, none⟩).run Tryd.prog w = .ok (.agg cs) w := load_blk h hu hd hi
theorem ldT_mid {w : World} {g o : Nat} {ty : TypeId} {cs : Array Value} {d : TypeDesc} (h : ∀ j v, cs.toList[j]? = some v → w.cell? ⟨g, o + j, none⟩ = some v) (hu : Tryd.prog.underlying ty = some d) (hd : d.isRow = true) (hi : (Tryd.prog.info? ty).map (·.size) = some cs.size) : (ldT ty ⟨g, o, none⟩).run Tryd.prog w = .ok (.agg cs) w := by
  have := run_loadVar_mid (P := Tryd.prog) w g o ty cs.toList d h hu hd (by simpa using hi)
  have e : cs.toList.toArray = cs := by simp
  rw [e] at this
  exact this
def putK (Y : Array Value) : Nat → List Value → Array Value
  | _, [] => Y
  | k, v :: r => putK (Y.setIfInBounds k v) (k + 1) r
theorem cells_put {g : Nat} {t : TypeId} {fr : Nat × Nat} : ∀ (vs : List Value) (k : Nat) (w : World) (Y : Array Value), w.heap[g]? = some (.cells Y t fr) → (w.setCells g k vs).heap[g]? = some (.cells (putK Y k vs) t fr)
  | [], _, _, _, h => h
  | v :: r, k, w, Y, h => by rw [World.setCells, putK]; exact cells_put r (k + 1) _ _ (Go.Joins.block_setCell h v)
theorem tq_cells {g : Nat} : ∀ (l : List Value) (k : Nat) (X : World), Tq X (X.setCells g k l) (fun x => x = g)
  | [], _, X => ⟨rfl, rfl, rfl, Nat.le_refl _, fun _ _ _ => rfl⟩
  | v :: r, k, X => Tq.trans (P := fun x => x = g) (Tq.set (P := fun x => x = g) rfl) (tq_cells r (k + 1) _)
theorem putK_all : ∀ (vs p q : List Value), q.length = vs.length → putK (p ++ q).toArray p.length vs = (p ++ vs).toArray
  | [], p, q, h => by
    have : q = [] := List.length_eq_zero_iff.1 h
    rw [this]; rfl
  | v :: r, p, [], h => by cases h
  | v :: r, p, a :: q, h => by
    rw [putK]
    have h1 : ((p ++ a :: q).toArray.setIfInBounds p.length v) = ((p ++ [v]) ++ q).toArray := by
      rw [List.setIfInBounds_toArray]
      congr 1
      rw [List.set_append_right _ _ (Nat.le_refl _)]
      simp
    rw [h1]
    have := putK_all r (p ++ [v]) q (by simpa using h)
    rw [List.length_append] at this
    have h2 : (p ++ [v]).length = p.length + 1 := by simp
    rw [show p.length + [v].length = p.length + 1 from rfl] at this
    rw [this]
    simp
theorem stT_run {w : World} {g : Nat} {ty : TypeId} {cs0 : Array Value} (cs : Array Value) (h : BA w g ty cs0) (hs : cs0.size = cs.size) (hi : (Tryd.prog.info? ty).map (·.size) = some cs.size) (h1 : (cs.all fun x => x.oneCell') = true) : ∃ Y, (stT ty ⟨g, 0, none⟩ (.agg cs)).run Tryd.prog w = .ok () Y ∧ BA Y g ty cs ∧ Tq w Y (fun k => k = g) := by
  have hr := run_storeVar_mid (P := Tryd.prog) w g 0 ty cs (fun j hj => by
    rw [Nat.zero_add, blk_cell h j]
    have hj2 : j < cs0.size := by omega
    exact ⟨by rw [Array.getElem?_eq_getElem hj2]; rfl, blk_fz h j⟩) hi h1
  have hp := cells_put cs.toList 0 w _ h
  have := putK_all cs.toList [] cs0.toList (by simpa using hs)
  simp only [List.nil_append, Array.toArray_toList, List.length_nil] at this
  rw [this] at hp
  exact ⟨_, hr, hp, tq_cells _ _ _⟩
/-- A block that is new since some world is filled. -/
theorem Tq.gbn {w X Y : World} {b g : Nat} (h : w.grownBy X (some b)) (t : Tq X Y (fun k => k = g)) (hg : w.heap.size ≤ g) : w.grownBy Y (some b) :=
  ⟨t.os.trans h.os, t.tape.trans h.tape, t.output.trans h.output, Nat.le_trans h.size t.size, fun k hk hne => (t.blk k (Nat.lt_of_lt_of_le hk h.size) (by omega)).trans (h.block k hk hne)⟩
theorem Tq.bel {X Y : World} {g : Nat} (t : Tq X Y (fun k => k = g)) {n : Nat} (hn : n ≤ X.heap.size) (hg : n ≤ g) : Below n X Y := ⟨t.os, t.tape, t.output, t.size, fun k hk => t.blk k (by omega) (by omega)⟩
/-- A row that is read: its length, and what stands at each place. -/
structure RdV (X : World) (k : Nat) (s : Sl) (n : Nat) (cs : List Value) : Prop where
  len : s.n = n
  all : cs.length = n * k
  most : n ≤ 140737488355328
  at_ : n = 0 ∨ ∃ g off, s.a = some ⟨g, off, none⟩ ∧ g < X.heap.size ∧ ∀ j u, cs[j]? = some u → X.cell? ⟨g, off + j, none⟩ = some u
theorem RdV.below {X Y : World} {k n : Nat} {s : Sl} {cs : List Value} (h : RdV X k s n cs) (hb : Below X.heap.size X Y) : RdV Y k s n cs :=
  ⟨h.len, h.all, h.most, h.at_.imp id fun ⟨g, off, h1, h2, h3⟩ => ⟨g, off, h1, Nat.lt_of_lt_of_le h2 hb.size, fun j u hu => (hb.cell (p := ⟨g, off + j, none⟩) h2).trans (h3 j u hu)⟩⟩
theorem RdV.tq {X Y : World} {P : Nat → Prop} {k n : Nat} {s : Sl} {cs : List Value} (h : RdV X k s n cs) (t : Tq X Y P) (hp : ∀ ad, s.a = some ad → ¬ P ad.block) : RdV Y k s n cs :=
  ⟨h.len, h.all, h.most, h.at_.imp id fun ⟨g, off, h1, h2, h3⟩ => ⟨g, off, h1, Nat.lt_of_lt_of_le h2 t.size, fun j u hu => (World.cell?_of_block (a := ⟨g, off + j, none⟩) (t.blk g h2 (hp _ h1))).trans (h3 j u hu)⟩⟩
theorem flat_at {α : Type} (enc : α → Array Value) (k : Nat) (he : ∀ x, (enc x).size = k) : ∀ (l : List α) (j : Nat) (hj : j < l.length) (m : Nat), m < k → (flat enc l)[j * k + m]? = (enc l[j])[m]?
  | x :: r, 0, hj, m, hm => by
    have : flat enc (x :: r) = (enc x).toList ++ flat enc r := rfl
    rw [this, Nat.zero_mul, Nat.zero_add, List.getElem?_append_left (by rw [Array.length_toList, he]; exact hm)]
    simp
  | x :: r, j + 1, hj, m, hm => by
    have : flat enc (x :: r) = (enc x).toList ++ flat enc r := rfl
    rw [this, List.getElem?_append_right (by rw [Array.length_toList, he, Nat.succ_mul]; omega)]
    rw [show (j + 1) * k + m - (enc x).toList.length = j * k + m by rw [Array.length_toList, he, Nat.succ_mul]; omega]
    exact flat_at enc k he r j (by simpa using hj) m hm
theorem own_rdv {X : World} {B n k : Nat} {e : TypeId} {s : Sl} {xs : List Value} (h : X.ownsRow B e k (.slice s.a s.n s.c) n xs) (hn : n ≤ 140737488355328) : RdV X k s n xs := by
  refine ⟨?_, h.1, hn, ?_⟩
  · rcases h.2 with ⟨hv, h0⟩ | ⟨g, cap, cur, hv, _⟩
    · injection hv with _ h1 _; rw [h1, h0]
    · injection hv
  · rcases h.2 with ⟨_, h0⟩ | ⟨g, cap, cur, hv, hb, hg, h1, h2, h3, h4⟩
    · exact .inl h0
    · injection hv with ha _ _
      refine .inr ⟨g, 0, ha, (Array.getElem?_eq_some_iff.1 hg).1, fun j u hu => ?_⟩
      have hc := World.ownsRow.cells h (g := g) (by simp [Value.ownBlock, ha]) j u hu
      rw [show (0 + j) = j by omega]
      rwa [show (⟨g, 0, none⟩ : Addr).add j = ⟨g, j, none⟩ by (simp [Addr.add]; omega)] at hc
theorem RdV.elem {X : World} {k : Nat} {s : Sl} {α : Type} {enc : α → Array Value} {xs : List α} (h : RdV X k s xs.length (flat enc xs)) (he : ∀ x, (enc x).size = k) (i : Nat) (hi : i < xs.length) : ∃ g off, s.a = some ⟨g, off, none⟩ ∧ g < X.heap.size ∧ ∀ j v, (enc xs[i]).toList[j]? = some v → X.cell? ⟨g, off + i * k + j, none⟩ = some v := by
  rcases h.at_ with h0 | ⟨g, off, ha, hg, hc⟩
  · omega
  · refine ⟨g, off, ha, hg, fun j v hv => ?_⟩
    have hj : j < k := by
      have := (List.getElem?_eq_some_iff.1 hv).1
      rw [Array.length_toList, he] at this
      exact this
    have := hc (i * k + j) v (by rw [flat_at enc k he xs i hi j hj]; rw [← Array.getElem?_toList]; exact hv)
    rw [← Nat.add_assoc] at this
    exact this
theorem flat_two {α : Type} (enc : α → Array Value) (a b : List α) : flat enc (a ++ b) = flat enc a ++ flat enc b := by simp [flat]
theorem flat_len {α : Type} (enc : α → Array Value) (k : Nat) (he : ∀ x, (enc x).size = k) : ∀ l : List α, (flat enc l).length = l.length * k
  | [] => by simp [flat]
  | c :: r => by
    have : flat enc (c :: r) = (enc c).toList ++ flat enc r := rfl
    rw [this, List.length_append, flat_len enc k he r, Array.length_toList, he, List.length_cons, Nat.add_mul]; omega
theorem RdV.take {α : Type} {X : World} {k : Nat} {s : Sl} {enc : α → Array Value} {l : List α} (h : RdV X k s l.length (flat enc l)) (he : ∀ x, (enc x).size = k) (n : Nat) (hn : n ≤ l.length) : RdV X k ⟨s.a, n, s.c⟩ (l.take n).length (flat enc (l.take n)) := by
  have hl : (l.take n).length = n := by rw [List.length_take]; omega
  have hmo := h.most
  refine ⟨hl.symm, flat_len enc k he _, by rw [hl]; omega, ?_⟩
  rw [hl]
  rcases h.at_ with h0 | ⟨g, off, h1, h2, h3⟩
  · exact .inl (by omega)
  · refine .inr ⟨g, off, h1, h2, fun j u hu => h3 j u ?_⟩
    have e : flat enc l = flat enc (l.take n) ++ flat enc (l.drop n) := by rw [← flat_two, List.take_append_drop]
    rw [e, List.getElem?_append_left (List.getElem?_eq_some_iff.1 hu).1]
    exact hu
/-- An element put behind a row of the call's own, however long. -/
theorem app_elW {X : World} {B n k by_ : Nat} {v : Value} {xs : List Value} {ts e : TypeId} {i : TypeInfo} {z : Value} (ht : Tryd.prog.underlying ts = some (.slice e)) (hi : Tryd.prog.info? e = some i) (hz : i.zero = some z) (hsize : i.size = k) (hby : i.bytes = by_) (hzs : z.cells.size = k) (hk : 0 < k) (cs : Array Value) (hcs : cs.size = k) (h1 : ∀ u ∈ cs.toList, u.oneCell' = true) (h : X.ownsRow B e k v n xs) (hB : B ≤ X.heap.size) (hn : n ≤ 140737488355328) (hb : ((n + 1) + (n + 1) / 4 + 192) * by_ ≤ 281474976710656) :
    ∃ (s : Sl) (Y : World), (appN #[ts, ts] ts #[v, .slice (some ⟨X.heap.size, 0, none⟩) 1 1]).run Tryd.prog (X.alloc (.cells cs e)) = .ok (.slice s.a s.n s.c) Y ∧ Y.ownsRow B e k (.slice s.a s.n s.c) (n + 1) (xs ++ cs.toList) ∧ (X.alloc (.cells cs e)).grownBy Y v.ownBlock := by
  have hbl : (X.alloc (.cells cs e)).ownsRow B e k v n xs := h.alloc _
  obtain ⟨v', Y, r1, r2, r3, _⟩ := run_append_own_wide (P := Tryd.prog) (w := X.alloc (.cells cs e)) B ts ts e i z k by_ ht hi hz hsize hby hzs hk v n xs hbl ⟨X.heap.size, 0, none⟩ 1 1 cs.toList (by rw [Array.length_toList, hcs, Nat.one_mul]) (fun j u hu => by
    have hbk : (X.alloc (.cells cs e)).heap[X.heap.size]? = some (.cells cs e (0, 0)) := blk_new _ _
    rw [Go.WideShapes.add_plain, Nat.zero_add, blk_cell hbk]
    simpa using hu) h1 (by unfold maxLen; omega) hb (by simp; omega)
  obtain ⟨va, vn, vc, rfl⟩ := own_slice r2
  exact ⟨⟨va, vn, vc⟩, Y, r1, r2, r3⟩
theorem own_boxH {X : World} {B g : Nat} {E ty : TypeId} {k : Nat} {v : Value} {n : Nat} {xs : List Value} {cs : Array Value} (h : X.ownsRow B E k v n xs) (hb : BA X g ty cs) (hne : ty ≠ E) {q : Nat} (hq : v.ownBlock = some q) : q ≠ g := by
  rcases h.2 with ⟨hv, h0⟩ | ⟨g', cap, cur, hv, hB, hh, _⟩
  · rw [hv] at hq; cases hq
  · rw [hv] at hq
    simp [Value.ownBlock] at hq
    subst hq
    rintro rfl
    unfold BA at hb
    rw [hh] at hb
    injection hb with hb
    injection hb with _ hb _
    exact hne hb.symm
theorem own_nilH (X : World) (B : Nat) (e : TypeId) (k : Nat) : X.ownsRow B e k (.slice none 0 0) 0 [] := ⟨by simp, .inl ⟨rfl, rfl⟩⟩
/-- A row in a field of a box grows by one. -/
theorem app_box {X : World} {B ob n k by_ j : Nat} {xs : List Value} {ty ts E : TypeId} {i : TypeInfo} {z : Value} {sl : Sl} {cs : Array Value} (hx : BA X ob ty cs) (hob : ob < B) (hj : cs[j]? = some (.slice sl.a sl.n sl.c)) (ht : Tryd.prog.underlying ts = some (.slice E)) (hi : Tryd.prog.info? E = some i) (hz : i.zero = some z) (hsize : i.size = k) (hby : i.bytes = by_) (hzs : z.cells.size = k) (hk : 0 < k) (es : Array Value) (hes : es.size = k) (h1 : ∀ u ∈ es.toList, u.oneCell' = true) (h : X.ownsRow B E k (.slice sl.a sl.n sl.c) n xs) (hB : B ≤ X.heap.size) (hn : n ≤ 140737488355328) (hb : ((n + 1) + (n + 1) / 4 + 192) * by_ ≤ 281474976710656) :
    ∃ (s' : Sl) (Y : World), (appN #[ts, ts] ts #[.slice sl.a sl.n sl.c, .slice (some ⟨X.heap.size, 0, none⟩) 1 1]).run Tryd.prog (X.alloc (.cells es E)) = .ok (.slice s'.a s'.n s'.c) Y ∧ Y.cell? ⟨ob, j, none⟩ = some (.slice sl.a sl.n sl.c) ∧ Y.frozen? ⟨ob, j, none⟩ = false ∧ X.cell? ⟨ob, j, none⟩ = some (.slice sl.a sl.n sl.c) ∧ (X.alloc (.cells es E)).cell? ⟨ob, j, none⟩ = some (.slice sl.a sl.n sl.c) ∧ Hid (BA (Y.setCell ⟨ob, j, none⟩ (.slice s'.a s'.n s'.c)) ob ty (cs.setIfInBounds j (.slice s'.a s'.n s'.c)) ∧ (Y.setCell ⟨ob, j, none⟩ (.slice s'.a s'.n s'.c)).ownsRow B E k (.slice s'.a s'.n s'.c) (n + 1) (xs ++ es.toList) ∧ Tq X (Y.setCell ⟨ob, j, none⟩ (.slice s'.a s'.n s'.c)) (fun y => y = ob ∨ (Value.slice sl.a sl.n sl.c).ownBlock = some y)) := by
  obtain ⟨s', Y, r1, r2, r3⟩ := app_elW ht hi hz hsize hby hzs hk es hes h1 h hB hn hb
  have hA : BA (X.alloc (.cells es E)) ob ty cs := hx.below ((Below.refl _ _).alloc (Nat.le_refl _) _)
  have tY : Tq (X.alloc (.cells es E)) Y (fun g => (Value.slice sl.a sl.n sl.c).ownBlock = some g) := Tq.gb r3 fun k e => e
  have hlo : ∀ g, (Value.slice sl.a sl.n sl.c).ownBlock = some g → B ≤ g := fun g hg => own_lo h g hg
  have oY : BA Y ob ty cs := hA.tq tY (fun e => by have := hlo ob e; omega)
  have tS : Tq Y (Y.setCell ⟨ob, j, none⟩ (.slice s'.a s'.n s'.c)) (fun g => g = ob) := Tq.set rfl
  refine ⟨s', Y, r1, (oY.cell j).trans hj, oY.fz j, (hx.cell j).trans hj, (hA.cell j).trans hj, oY.set _, tS.own r2 (fun g hg => by have := own_lo r2 g hg; omega), ?_⟩
  exact ((Tq.below (P := fun y => y = ob ∨ (Value.slice sl.a sl.n sl.c).ownBlock = some y) ((Below.refl _ _).alloc (Nat.le_refl _) _)).trans (tY.mono fun k _ e => .inr e)).trans (tS.mono fun k _ e => .inl e)
/-- A place that is new is filled. -/
theorem fill_at {w X : World} {ty : TypeId} {rs : Nat} {zs : Array Value} (cs : Array Value) (h0 : BA X rs ty zs) (hX : Below w.heap.size w X) (hr : w.heap.size ≤ rs) (hs : zs.size = cs.size) (hi : (Tryd.prog.info? ty).map (·.size) = some cs.size) (h1 : (cs.all fun x => x.oneCell') = true) : ∃ Z, (stT ty ⟨rs, 0, none⟩ (.agg cs)).run Tryd.prog X = .ok () Z ∧ Hid (BA Z rs ty cs ∧ Below w.heap.size w Z ∧ Tq X Z (fun k => k = rs)) := by
  obtain ⟨Z, z1, z2, z3⟩ := stT_run cs h0 hs hi h1
  exact ⟨Z, z1, z2, hX.trans (z3.bel hX.size hr), z3⟩
theorem below_tqH {w X Y : World} {P : Nat → Prop} (h : Below w.heap.size w X) (t : Tq X Y P) (hp : ∀ k, k < w.heap.size → ¬ P k) : Below w.heap.size w Y := ⟨t.os.trans h.os, t.tape.trans h.tape, t.output.trans h.output, Nat.le_trans h.size t.size, fun k hk => (t.blk k (Nat.lt_of_lt_of_le hk h.size) (hp k hk)).trans (h.block k hk)⟩
theorem own_belowH {X Y : World} {B : Nat} {e : TypeId} {k : Nat} {v : Value} {n : Nat} {xs : List Value} (h : X.ownsRow B e k v n xs) (hb : Below X.heap.size X Y) : Y.ownsRow B e k v n xs := (Tq.below (P := fun _ => False) hb).own h (fun _ _ e => e)
theorem ownK : ownKnob Tryd.prog.godebug = none := by kernel_rfl
theorem flat_one' {α : Type} {enc : α → Array Value} (h : ∀ x, ∀ u ∈ (enc x).toList, u.oneCell' = true) : ∀ (l : List α), ∀ u ∈ flat enc l, u.oneCell' = true
  | [], u, hu => by cases hu
  | x :: r, u, hu => by
    have : flat enc (x :: r) = (enc x).toList ++ flat enc r := rfl
    rw [this] at hu
    rcases List.mem_append.1 hu with h1 | h1
    · exact h x u h1
    · exact flat_one' h r u h1
/-- An empty row of the call's own gets an element, then a row that is read. -/
theorem two_app {X0 W : World} {B D : Nat} {t e : TypeId} {i : TypeInfo} {z : Value} {k by_ n : Nat} (ht : Tryd.prog.underlying t = some (.slice e)) (hi : Tryd.prog.info? e = some i) (hz : i.zero = some z) (hsize : i.size = k) (hby : i.bytes = by_) (hzs : z.cells.size = k) (hk : 0 < k) (hb2 : 1 ≤ by_ ∧ by_ ≤ 1000) (es : Array Value) (hes : es.size = k) (he1 : ∀ u ∈ es.toList, u.oneCell' = true) (v : Value) (ho : W.ownsRow B e k v 0 []) (hB : B ≤ W.heap.size) (hD : W.heap[D]? = some (.cells es e (0, 0))) (s : Sl) (cs : List Value) (hr : RdV X0 k s n cs) (hX0 : Below X0.heap.size X0 W) (hB0 : X0.heap.size ≤ B) (h1 : ∀ u ∈ cs, u.oneCell' = true) (hm : n * by_ ≤ 140737488351232) :
    ∃ (s1 s2 : Sl) (Y2 Y3 : World), (appN #[t, t] t #[v, .slice (some ⟨D, 0, none⟩) 1 1]).run Tryd.prog W = .ok (.slice s1.a s1.n s1.c) Y2 ∧ (appN #[t, t] t #[.slice s1.a s1.n s1.c, .slice s.a s.n s.c]).run Tryd.prog Y2 = .ok (.slice s2.a s2.n s2.c) Y3 ∧ Y3.ownsRow B e k (.slice s2.a s2.n s2.c) (n + 1) (es.toList ++ cs) ∧ Below B W Y2 ∧ Below B W Y3 := by
  have hmul : (n + 1) * by_ = n * by_ + by_ := Nat.succ_mul n by_
  have hle : n ≤ n * by_ := Nat.le_mul_of_pos_right _ (by omega)
  obtain ⟨v1, Y2, a1, a2, a3, _⟩ := run_append_own (P := Tryd.prog) (w := W) B t t e i z k by_ ht hi hz hsize hby hzs hk v 0 [] ho ⟨D, 0, none⟩ 1 1 es.toList (by rw [Array.length_toList, hes, Nat.one_mul]) (fun j u hu => by
    rw [Go.WideShapes.add_plain, Nat.zero_add, blk_cell hD]
    simpa using hu) he1 (by unfold maxLen; omega) (by omega) hB
  obtain ⟨va, vn, vc, rfl⟩ := own_slice a2
  rw [Nat.zero_add, List.nil_append] at a2
  have b2 : Below B W Y2 := ⟨a3.os, a3.tape, a3.output, a3.size, fun j hj => a3.block j (Nat.lt_of_lt_of_le hj hB) (fun e => by have := own_lo ho j e.symm; omega)⟩
  by_cases h0 : n = 0
  · have hcs : cs = [] := List.eq_nil_of_length_eq_zero (by rw [hr.all, h0, Nat.zero_mul])
    have hsn : s.n = 0 := by rw [hr.len, h0]
    obtain ⟨q, hva, hvn, hvc⟩ : ∃ q, va = some ⟨q, 0, none⟩ ∧ vn = 1 ∧ 1 ≤ vc := by
      rcases a2.2 with ⟨_, hh⟩ | ⟨g', cap, cur, hv, _, _, hc, _⟩
      · omega
      · injection hv with e1 e2 e3; exact ⟨g', e1, e2, by rw [e3]; exact hc⟩
    subst hva
    refine ⟨⟨_, vn, vc⟩, ⟨_, vn, vc⟩, Y2, Y2, a1, ?_, by rw [hcs, h0, List.append_nil]; exact a2, b2, b2⟩
    rw [hsn, hvn]
    dsimp only
    unfold appN
    cases ha : s.a with
    | none => simp [Builtin.append_, run_underlying ht, sizeOf, typeInfo, hi, hsize, Builtin.lenOf, hvc, run_firstCells_none, storeCells, Addr.add_lit]
    | some ad => simp [Builtin.append_, run_underlying ht, sizeOf, typeInfo, hi, hsize, Builtin.lenOf, hvc, Builtin.firstCells, loadCells, loadCellsFrom, storeCells, Addr.add_lit]
  · obtain ⟨g, off, ha, hg, hc⟩ := hr.at_.resolve_left h0
    obtain ⟨v2, Y3, c1, c2, c3, _⟩ := run_append_own (P := Tryd.prog) (w := Y2) B t t e i z k by_ ht hi hz hsize hby hzs hk _ 1 es.toList a2 ⟨g, off, none⟩ n s.c cs hr.all (fun j u hu => by
      rw [Go.WideShapes.add_plain]
      exact (World.cell?_of_block (a := ⟨g, off + j, none⟩) ((b2.block g (Nat.lt_of_lt_of_le hg hB0)).trans (hX0.block g hg))).trans (hc j u hu)) h1 (by unfold maxLen; omega) (by rw [Nat.add_comm 1 n]; omega) (Nat.le_trans hB a3.size)
    obtain ⟨wa, wn, wc, rfl⟩ := own_slice c2
    refine ⟨⟨va, vn, vc⟩, ⟨wa, wn, wc⟩, Y2, Y3, a1, ?_, by rw [Nat.add_comm n 1]; exact c2, b2, ?_⟩
    · rw [ha, hr.len]; exact c1
    · exact ⟨c3.os.trans b2.os, c3.tape.trans b2.tape, c3.output.trans b2.output, Nat.le_trans b2.size c3.size, fun j hj => (c3.block j (Nat.lt_of_lt_of_le (Nat.lt_of_lt_of_le hj hB) b2.size) (fun e => by have := own_lo a2 j e.symm; omega)).trans (b2.block j hj)⟩
end Go.Proofs.YtgkfnfilomjphaaDoor
