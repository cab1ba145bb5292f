/-
  How the document's machine lies in memory.
  The document's trap.
-/
import Derived.Test.YteegkhnikcioiaaGreatDoorMMShown
import Derived.Test.YteegkhnikcioiaaGreatDoorMRBNew
namespace Go.Proofs.YteegkhnikcioiaaGreatDoor
open Go.ChangeShapes Go.WideShapes Go.ChangeAt Go.RowKit
open Cpu (Cp In Ac En decOk decI accA rightB)
set_option linter.unusedVariables false

def rmcells (r : Nat) (m : Ms) : Array Value := #[.int .u32 (m.c.R 0), .int .u32 (m.c.R 1), .int .u32 (m.c.R 2), .int .u32 (m.c.R 3), .int .u32 (m.c.R 4), .int .u32 (m.c.R 5), .int .u32 (m.c.R 6), .int .u32 (m.c.R 7), .int .u32 (m.c.R 8), .int .u32 (m.c.R 9), .int .u32 (m.c.R 10), .int .u32 (m.c.R 11), .int .u32 (m.c.R 12), .int .u32 (m.c.R 13), .int .u32 (m.c.R 14), .int .u32 (m.c.R 15), .int .u32 m.c.H, .bool m.c.N, .bool m.c.Z, .bool m.c.C, .bool m.c.V, .int .u32 m.c.PC, .pointer (some ⟨r, 0, none⟩), .int .i64 m.cut, .int .i64 m.st]
theorem rmc_size (r : Nat) (m : Ms) : (rmcells r m).size = 25 := rfl
theorem rmc_cpu (r : Nat) (m : Ms) : (rmcells r m).extract 0 22 = m.c.cells := by kernel_rfl
theorem rmc_set21 (r : Nat) (m : Ms) (x : Int) : (rmcells r m).setIfInBounds 21 (.int .u32 x) = rmcells r { m with c := { m.c with PC := x } } := rfl
theorem rmc_set23 (r : Nat) (m : Ms) (x : Int) : (rmcells r m).setIfInBounds 23 (.int .i64 x) = rmcells r { m with cut := x } := rfl
theorem rmc_set24 (r : Nat) (m : Ms) (x : Int) : (rmcells r m).setIfInBounds 24 (.int .i64 x) = rmcells r { m with st := x } := rfl
theorem rmc_put (r : Nat) (m : Ms) (d : Cp) : putList (rmcells r m) 0 d.cells.toList = rmcells r { m with c := d } := by kernel_rfl
def RM (p r : Nat) (Q : RPh) (x : Nat) : Prop := x = p ∨ Q.all r x
structure RMac (w : World) (p r : Nat) (Q : RPh) (m : Ms) : Prop where
  bus : RBus w r Q m.L
  blk : rowAt w p = some (rmcells r m)
  room : roomAt w p 25 = true
  ne : ¬ Q.all r p
  plt : p < w.heap.size
  ok : m.Ok
theorem RMac.lt {w : World} {p r : Nat} {Q : RPh} {m : Ms} (h : RMac w p r Q m) : ∀ x, RM p r Q x → x < w.heap.size := fun x hx => hx.elim (fun e => by rw [e]; exact h.plt) (h.bus.lt x)
theorem RMac.keep {w w' : World} {p r : Nat} {Q : RPh} {m : Ms} (h : RMac w p r Q m) (hs : w.heap.size ≤ w'.heap.size) (hw : ∀ x, x < w.heap.size → RM p r Q x → w'.heap[x]? = w.heap[x]?) : RMac w' p r Q m where
  bus := h.bus.keep hs fun x hx => hw x (h.bus.lt x hx) (.inr hx)
  blk := (rowAt_same (hw p h.plt (.inl rfl))).trans h.blk
  room := (roomAt_same (hw p h.plt (.inl rfl))).trans h.room
  ne := h.ne
  plt := Nat.lt_of_lt_of_le h.plt hs
  ok := h.ok
theorem RMac.below {w w' : World} {p r : Nat} {Q : RPh} {m : Ms} (h : RMac w p r Q m) (hb : Below w.heap.size w w') : RMac w' p r Q m := h.keep hb.size fun x hx _ => hb.block x hx
structure RMStp (w : World) (p r : Nat) (Q : RPh) (w' : World) (Q' : RPh) (m' : Ms) : Prop where
  mac : RMac w' p r Q' m'
  tou : Tou (RM p r Q) w w'
  new : ∀ x, Q'.all r x → Q.all r x ∨ w.heap.size ≤ x
theorem RMStp.refl {w : World} {p r : Nat} {Q : RPh} {m : Ms} (h : RMac w p r Q m) : RMStp w p r Q w Q m := ⟨h, Tou.refl _ _, fun _ hx => .inl hx⟩
theorem RMStp.trans {w w1 w2 : World} {p r : Nat} {Q Q1 Q2 : RPh} {m1 m2 : Ms} (h : RMStp w p r Q w1 Q1 m1) (k : RMStp w1 p r Q1 w2 Q2 m2) : RMStp w p r Q w2 Q2 m2 :=
  ⟨k.mac, h.tou.trans k.tou fun x hx hn => hn.elim .inl fun hn => .inr ((h.new x hn).resolve_right (by omega)), fun x hx => (k.new x hx).elim (fun e => h.new x e) fun e => .inr (Nat.le_trans h.tou.size e)⟩
theorem RMStp.below {w w1 : World} {p r : Nat} {Q : RPh} {m : Ms} (h : RMac w p r Q m) (hb : Below w.heap.size w w1) : RMStp w p r Q w1 Q m := ⟨h.below hb, Below.tou hb _, fun _ hx => .inl hx⟩
theorem RMac.stp {w w' : World} {p r : Nat} {Q Q' : RPh} {m : Ms} {L' : Lg} (h : RMac w p r Q m) (hs : RStp w r Q w' Q' L') : RMStp w p r Q w' Q' { m with L := L' } where
  mac := {
    bus := hs.bus
    blk := (rowAt_same (hs.tou.block p h.plt h.ne)).trans h.blk
    room := (roomAt_same (hs.tou.block p h.plt h.ne)).trans h.room
    ne := fun e => (hs.new p e).elim h.ne fun e => absurd h.plt (by omega)
    plt := Nat.lt_of_lt_of_le h.plt hs.tou.size
    ok := ⟨h.ok.c, h.ok.st, h.ok.cut⟩ }
  tou := ⟨hs.tou.os, hs.tou.tape, hs.tou.output, hs.tou.size, fun k hk hm => hs.tou.block k hk fun e => hm (.inr e)⟩
  new := hs.new
theorem RMac.cells {w w' : World} {p r : Nat} {Q : RPh} {m m' : Ms} (h : RMac w p r Q m) (hL : m'.L = m.L) (hok : m'.Ok) (hs : w'.heap.size = w.heap.size) (hx : ∀ x, x ≠ p → w'.heap[x]? = w.heap[x]?) (ho : w'.os = w.os ∧ w'.tape = w.tape ∧ w'.output = w.output) (hr : rowAt w' p = some (rmcells r m')) (hm : roomAt w' p 25 = true) : RMStp w p r Q w' Q m' where
  mac := {
    bus := by rw [hL]; exact h.bus.keep (by omega) fun x hx' => hx x fun e => h.ne (e ▸ hx')
    blk := hr
    room := hm
    ne := h.ne
    plt := by rw [hs]; exact h.plt
    ok := hok }
  tou := ⟨ho.1, ho.2.1, ho.2.2, by omega, fun k _ hm => hx k fun e => hm (.inl e)⟩
  new := fun _ hx => .inl hx
theorem RMac.put {w : World} {p r : Nat} {Q : RPh} {m m' : Ms} (h : RMac w p r Q m) (j : Nat) (v : Value) (hc : (rmcells r m).setIfInBounds j v = rmcells r m') (hL : m'.L = m.L) (hok : m'.Ok) : RMStp w p r Q (w.setCell ⟨p, j, none⟩ v) Q m' := by
  obtain ⟨t, hY, hsz⟩ := room_blk h.blk h.room
  have b6 := Go.Joins.block_setCell (i := j) hY v
  refine h.cells hL hok (by simp) (fun x hx => Below.heap_setCell _ _ _ _ hx) ⟨rfl, rfl, rfl⟩ ?_ ?_
  · unfold rowAt; rw [b6]; exact congrArg some hc
  · unfold roomAt; rw [b6]; simp [hsz]
theorem RMac.putCpu {w : World} {p r : Nat} {Q : RPh} {m : Ms} (h : RMac w p r Q m) (d : Cp) (hd : d.Ok) : RMStp w p r Q (Cpu.putRow w p d.cells) Q { m with c := d } := by
  obtain ⟨t, hY, hsz⟩ := room_blk h.blk h.room
  have b6 := setCells_heap d.cells.toList 0 w _ hY
  rw [Cpu.putRow_eq]
  refine h.cells rfl ⟨hd, h.ok.st, h.ok.cut⟩ (size_setCells _ _ _ _) (fun x hx => setCells_other _ _ hx _ _ _) (setCells_os _ _ _ _) ?_ ?_
  · unfold rowAt; rw [b6, rmc_put]
  · unfold roomAt; rw [b6, rmc_put]; simp [rmc_size]
theorem rload_top {w : World} {p r : Nat} {Q : RPh} {m : Ms} (h : RMac w p r Q m) : (Cpu.loadCpu ⟨p, 0, none⟩).run Tryz.prog w = .ok (.agg m.c.cells) w := by
  have hl : m.c.cells.toList.length = 22 := rfl
  have := run_loadVar_mid (P := Tryz.prog) w p 0 45 m.c.cells.toList _ (fun j v hv => by
    rw [rowAt_cell h.blk]
    have hj : j < 22 := by
      have := (List.getElem?_eq_some_iff.1 hv).1
      omega
    rw [← hv, Array.getElem?_toList, ← rmc_cpu r m, Array.getElem?_extract, if_pos (by rw [rmc_size]; omega)]) Tryz.underlying45 rfl (by rw [hl]; exact Cpu.Tryz.sizeCpu)
  rw [Array.toArray_toList] at this
  exact this
theorem rstore_top {w : World} {p : Nat} (c : Cp) (h : Cpu.roomAt w p 25 = true) : (Cpu.storeCpu ⟨p, 0, none⟩ (.agg c.cells)).run Tryz.prog w = .ok () (Cpu.putRow w p c.cells) := by
  rw [Cpu.putRow_eq]
  refine run_storeVar_mid w p 0 45 c.cells (fun j hj => ?_) Cpu.Tryz.sizeCpu (by simp [Cpu.Cp.cells, Value.oneCell'])
  have := Cpu.room_there h (0 + j) (by have : c.cells.size = 22 := rfl; omega)
  simpa using this
theorem rload_new (w : World) (c : Cp) (t : TypeId) (k : Nat) (hk : k = w.heap.size) : (Cpu.loadCpu ⟨k, 0, none⟩).run Tryz.prog (w.alloc (.cells c.cells t)) = .ok (.agg c.cells) (w.alloc (.cells c.cells t)) := Cpu.loadCpu_row (Cpu.rowAt_at _ _ _ _ _ hk)
structure RFive (w : World) (p r : Nat) (m : Ms) : Prop where
  c21 : w.cell? ⟨p, 21, none⟩ = some (.int .u32 m.c.PC)
  c22 : w.cell? ⟨p, 22, none⟩ = some (.pointer (some ⟨r, 0, none⟩))
  c23 : w.cell? ⟨p, 23, none⟩ = some (.int .i64 m.cut)
  c24 : w.cell? ⟨p, 24, none⟩ = some (.int .i64 m.st)
theorem RMac.five {w : World} {p r : Nat} {Q : RPh} {m : Ms} (h : RMac w p r Q m) : RFive w p r m := ⟨rowAt_cell h.blk 21, rowAt_cell h.blk 22, rowAt_cell h.blk 23, rowAt_cell h.blk 24⟩
theorem RMac.free {w : World} {p r : Nat} {Q : RPh} {m : Ms} (h : RMac w p r Q m) {j : Nat} (hj : j < 25) : w.frozen? ⟨p, j, none⟩ = false := by
  have := (room_there h.room j hj).2
  simpa using this
/-- A row of the walk's own beside it. -/
structure RLoc (w : World) (p r : Nat) (Q : RPh) (g n : Nat) (X : Array Value) : Prop where
  row : Cpu.rowAt w g = some X
  room : Cpu.roomAt w g n = true
  lt : g < w.heap.size
  nin : ¬ RM p r Q g
theorem RLoc.step {w w' : World} {p r : Nat} {Q Q' : RPh} {g n : Nat} {X : Array Value} {m' : Ms} (h : RLoc w p r Q g n X) (hs : RMStp w p r Q w' Q' m') : RLoc w' p r Q' g n X :=
  ⟨(rowAt_same (hs.tou.block g h.lt h.nin)).trans h.row, (roomAt_same (hs.tou.block g h.lt h.nin)).trans h.room, Nat.lt_of_lt_of_le h.lt hs.tou.size, fun e => e.elim (fun e => h.nin (.inl e)) fun e => (hs.new g e).elim (fun e => h.nin (.inr e)) fun e => absurd h.lt (by omega)⟩
theorem RLoc.below {w w' : World} {p r : Nat} {Q : RPh} {g n : Nat} {X : Array Value} (h : RLoc w p r Q g n X) (hb : Below w.heap.size w w') : RLoc w' p r Q g n X :=
  ⟨(rowAt_same (hb.block g h.lt)).trans h.row, (roomAt_same (hb.block g h.lt)).trans h.room, Nat.lt_of_lt_of_le h.lt hb.size, h.nin⟩
theorem RLoc.new {w : World} {p r : Nat} {Q : RPh} {m : Ms} (h : RMac w p r Q m) (X : Array Value) (t : TypeId) (n : Nat) (hn : X.size = n) : RLoc (w.alloc (.cells X t)) p r Q w.heap.size n X :=
  ⟨Cpu.rowAt_at _ _ _ _ _ rfl, Cpu.roomAt_new _ _ _ _ _ rfl hn, by simp, fun e => absurd (h.lt _ e) (by omega)⟩
theorem RLoc.cell {w : World} {p r : Nat} {Q : RPh} {g n : Nat} {X : Array Value} (h : RLoc w p r Q g n X) (j : Nat) : w.cell? ⟨g, j, none⟩ = X[j]? := Cpu.rowAt_cell h.row j
theorem RMStp.put {w0 w : World} {p r : Nat} {Q0 Q : RPh} {m : Ms} (h : RMStp w0 p r Q0 w Q m) {g n : Nat} {Y : Array Value} (hl : RLoc w p r Q g n Y) (hg : w0.heap.size ≤ g) (X : Array Value) : RMStp w0 p r Q0 (Cpu.putRow w g X) Q m where
  mac := h.mac.keep (by rw [Cpu.size_put]; exact Nat.le_refl _) fun x hx hm => heap_put w g x (fun e => hl.nin (e ▸ hm)) X
  tou := ⟨(put_os _ _ _).1.trans h.tou.os, (put_os _ _ _).2.1.trans h.tou.tape, (put_os _ _ _).2.2.trans h.tou.output, by rw [Cpu.size_put]; exact h.tou.size, fun k hk hm => (heap_put w g k (fun e => absurd hg (by omega)) X).trans (h.tou.block k hk hm)⟩
  new := h.new
theorem RLoc.put {w : World} {p r : Nat} {Q : RPh} {g n g' : Nat} {X : Array Value} (h : RLoc w p r Q g n X) (hne : g ≠ g') (Z : Array Value) : RLoc (Cpu.putRow w g' Z) p r Q g n X :=
  ⟨(rowAt_same (heap_put w g' g hne Z)).trans h.row, (roomAt_same (heap_put w g' g hne Z)).trans h.room, by rw [Cpu.size_put]; exact h.lt, h.nin⟩
end Go.Proofs.YteegkhnikcioiaaGreatDoor

namespace Go.Proofs.YteegkhnikcioiaaGreatDoor
open Go.ChangeShapes Go.WideShapes Go.ChangeAt Go.RowKit
open Cpu (Cp In Ac En decOk decI accA rightB)
attribute [local go_sem ↓] Cpu.loadCpu_seal Cpu.storeCpu_seal Cpu.loadIn_seal Cpu.storeIn_seal Cpu.loadAc_seal Cpu.storeAc_seal Cpu.loadEn_seal Cpu.storeEn_seal
attribute [local go_sem] rload_new Cpu.storeCpu_run Cpu.loadIn_run Cpu.storeIn_run Cpu.rowAt_at Cpu.rowAt_past Cpu.rowAt_drew Cpu.rowAt_drewN Cpu.roomCpu_new Cpu.roomIn_new Cpu.roomAt_old Cpu.roomAt_drew Cpu.roomAt_drewN Cpu.putCpu_new Cpu.putIn_new Cpu.Cp.zero_fold Cpu.In.fold Cpu.putRow_past Cpu.rowCpu_put Cpu.rowIn_put Cpu.size_put Cpu.putRow_drew Cpu.putRow_drewN Cpu.alloc_drewN Cpu.setCell_drewN Cpu.Cp.at16 Cpu.Cp.at17 Cpu.Cp.at18 Cpu.Cp.at19 Cpu.Cp.at20 Cpu.Cp.at21 Cpu.Cp.size Cpu.Cp.set16 Cpu.Cp.set17 Cpu.Cp.set18 Cpu.Cp.set19 Cpu.Cp.set20 Cpu.Cp.set21 Cpu.In.at0 Cpu.In.at1 Cpu.In.at2 Cpu.In.at3 Cpu.In.at4 Cpu.In.at5 Cpu.In.at6 Cpu.In.at7 Cpu.In.size Cpu.In.set0 Cpu.In.set1 Cpu.In.set2 Cpu.In.set3 Cpu.In.ne Cpu.Cp.ne Cpu.In.set4 Cpu.In.set5 Cpu.In.set6 Cpu.In.set7 Cpu.loadAc_run Cpu.storeAc_run Cpu.loadEn_run Cpu.storeEn_run Cpu.putAc_new Cpu.putEn_new Cpu.roomAc_new Cpu.roomEn_new Cpu.rowAc_put Cpu.rowEn_put Cpu.Ac.at0 Cpu.Ac.at1 Cpu.Ac.at2 Cpu.Ac.size Cpu.Ac.ne Cpu.Ac.fold Cpu.En.at0 Cpu.En.at1 Cpu.En.at2 Cpu.En.at3 Cpu.En.size Cpu.En.set0 Cpu.En.set1 Cpu.En.set2 Cpu.En.set3 Cpu.Ac.set0 Cpu.Ac.set1 Cpu.Ac.set2 Cpu.En.ne Cpu.En.fold
set_option linter.unusedVariables false

def Ms.next (m : Ms) : Ms := { m with st := m.st + 1 }
theorem next_ok {m : Ms} (h : m.Ok) (hs : m.st + 1 ≤ 4611686018427387904) : m.next.Ok := ⟨h.c, ⟨by have := h.st.1; show 0 ≤ m.st + 1; omega, hs⟩, h.cut⟩
set_option maxHeartbeats 1000000 in
set_option maxRecDepth 20000 in
theorem rtrap_any {w : World} {p r : Nat} {Q : RPh} {m : Ms} (h : RMac w p r Q m) (n : Int) (hs : m.st + 1 ≤ 4611686018427387904) : Calls Tryz.prog 63 #[.pointer (some ⟨p, 0, none⟩), .int .i64 n] w fun e w' => e = .returned (.tuple #[.agg (m.next.trapped n).1.cells, .bool (!((m.next.trapped n).1.k == 0))]) ∧ ∃ Q', RMStp w p r Q w' Q' (m.next.trapped n).2 := by
  have a0 : ∀ o, Below w.heap.size w (w.alloc o) := fun o => (Below.refl _ w).alloc (Nat.le_refl _) o
  have H : Hid (∀ o, RMStp w p r Q ((w.alloc o).setCell ⟨p, 24, none⟩ (.int .i64 (m.st + 1))) Q m.next) := fun o => (RMStp.below h (a0 _)).trans ((h.below (a0 _)).put 24 _ (rmc_set24 r m (m.st + 1)) rfl (next_ok h.ok hs))
  have HL : Hid (∀ e : En, RLoc ((w.alloc (.cells e.cells 41)).setCell ⟨p, 24, none⟩ (.int .i64 (m.st + 1))) p r Q w.heap.size 4 e.cells) := fun e => (RLoc.new h e.cells _ 4 rfl).step ((h.below (a0 _)).put 24 _ (rmc_set24 r m (m.st + 1)) rfl (next_ok h.ok hs))
  have c24 := fun o => (h.below (a0 o)).five.c24
  have f24 := fun o => (h.below (a0 o)).free (j := 24) (by omega)
  have d22 := fun o => (H.out o).mac.five.c22
  have d21 : ∀ o, ((w.alloc o).setCell ⟨p, 24, none⟩ (.int .i64 (m.st + 1))).cell? ⟨p, 21, none⟩ = some (.int .u32 m.c.PC) := fun o => (H.out o).mac.five.c21
  have r1 := fun e => (HL.out e).room
  have st0 := h.ok.st.1
  have st1 := h.ok.st.2
  have hwr : IntKind.i64.wrap (m.st + 1) = m.st + 1 := by rw [IntWalk.i64_left, IntWalk.wrap64_in]; omega
  have hvb : 0 ≤ gotV m.L.M 16 ∧ gotV m.L.M 16 ≤ 4294967295 := by
    unfold gotV
    split
    · exact wordAt_bd h.bus.byte (by decide) (by decide)
    · exact ⟨by decide, by decide⟩
  have pcb := h.ok.c.PC
  clear h a0
  by_cases hn : n = 0
  · have ht : m.next.trapped n = (enAt 3 0, m.next) := by unfold Ms.trapped; rw [if_pos hn]
    rw [ht]
    subst hn
    clear ht
    go_enter Tryz.func63, Tryz.ntmps63
    go_wp2_with (go_at_call 33; refine (rword_any r Q m.L 16 _ (H.out _).mac.bus (by decide) (by decide)).mono ?_; rintro e w1 ⟨rfl, hw⟩; obtain rfl := hw.symm; clear hw)
    exact Cpu.ret_cell_tmp rfl rfl (Cpu.loadEn_row (Cpu.rowEn_put _ _ _ (r1 _))) rfl ⟨rfl, Q, (H.out _).put (HL.out _) (Nat.le_refl _) _⟩
  · by_cases hv : gotV m.L.M 16 = 0
    · have ht : m.next.trapped n = ({ k := 4, t := n, a := m.c.PC, s := 0 }, m.next) := by unfold Ms.trapped; rw [if_neg hn, if_pos (show gotV m.next.L.M 16 = 0 from hv)]; rfl
      rw [ht]
      clear ht
      go_enter Tryz.func63, Tryz.ntmps63
      go_wp2_with (go_at_call 33; refine (rword_any r Q m.L 16 _ (H.out _).mac.bus (by decide) (by decide)).mono ?_; rw [hv]; rintro e w1 ⟨rfl, hw⟩; obtain rfl := hw.symm; clear hw)
      exact Cpu.ret_cell_tmp rfl rfl (Cpu.loadEn_row (Cpu.rowEn_put _ _ _ (r1 _))) rfl ⟨rfl, Q, (H.out _).put (HL.out _) (Nat.le_refl _) _⟩
    · have ht : m.next.trapped n = (enAt 0 0, { m.next with L := { m.L with M := pokeM (pokeM m.L.M 20 (n % 4294967296)) 24 m.c.PC }, c := { m.c with PC := gotV m.L.M 16 } }) := by unfold Ms.trapped; rw [if_neg hn, if_neg (show ¬ gotV m.next.L.M 16 = 0 from hv)]; rfl
      rw [ht]
      clear ht
      go_enter Tryz.func63, Tryz.ntmps63
      go_wp2_with (first
        | (go_at_call 33; refine (rword_any r Q m.L 16 _ (H.out _).mac.bus (by decide) (by decide)).mono ?_; rintro e w1 ⟨rfl, hw⟩; obtain rfl := hw.symm; clear hw)
        | (go_at_call 95; refine (rpoke_any r Q m.L 20 (n % 4294967296) _ (H.out _).mac.bus (by decide) (by decide) (by omega) (by omega)).mono ?_; rintro e w2 ⟨rfl, hS⟩; have H2 : Hid (RMStp w p r Q w2 Q { m.next with L := { m.L with M := pokeM m.L.M 20 (n % 4294967296) } }) := (H.out _).trans ((H.out _).mac.stp hS); have HL2 : Hid (RLoc w2 p r Q w.heap.size 4 (enAt 0 0).cells) := (HL.out (enAt 0 0)).step ((H.out _).mac.stp hS); have e21 : w2.cell? ⟨p, 21, none⟩ = some (.int .u32 m.c.PC) := H2.out.mac.five.c21; have e22 := H2.out.mac.five.c22; clear hS))
      first | (go_region_held3 (fun X => X.cell? ⟨p, 22, none⟩ = some (.pointer (some ⟨r, 0, none⟩)) ∧ X.cell? ⟨p, 21, none⟩ = some (.int .u32 m.c.PC)) (first | exact ⟨e22, e21⟩ | exact ⟨g22, g21⟩) (first | (go_at_call 95; refine (rpoke_any r Q { m.L with M := pokeM m.L.M 20 (n % 4294967296) } 24 m.c.PC _ ((RMStp.below H2.out.mac (drB w2)).mac.bus) (by decide) (by decide) pcb.1 pcb.2).mono ?_; rintro e w3 ⟨rfl, hS⟩; have HM := RMStp.below H2.out.mac (drB w2); have H3 : Hid (RMStp w p r Q w3 Q { m.next with L := { m.L with M := pokeM (pokeM m.L.M 20 (n % 4294967296)) 24 m.c.PC } }) := H2.out.trans (HM.trans (HM.mac.stp hS)); have HL3 : Hid (RLoc w3 p r Q w.heap.size 4 (enAt 0 0).cells) := HL2.out.step (HM.trans (HM.mac.stp hS)); have g21 : w3.cell? ⟨p, 21, none⟩ = some (.int .u32 m.c.PC) := H3.out.mac.five.c21; have g22 := H3.out.mac.five.c22; clear hS HM))) | fail
      all_goals
        have f21 := H3.out.mac.free (j := 21) (by omega)
        have r3 : ∀ v, Cpu.roomAt (w3.setCell ⟨p, 21, none⟩ v) w.heap.size 4 = true := fun v => (roomAt_same (Below.heap_setCell _ _ _ _ fun e => HL3.out.nin (.inl e))).trans HL3.out.room
        go_wp2
        refine Cpu.ret_cell_tmp rfl rfl (Cpu.loadEn_row (Cpu.rowEn_put _ _ _ (r3 _))) rfl ⟨rfl, Q, ?_⟩
        have HP := H3.out.mac.put 21 (.int .u32 (gotV m.L.M 16)) (rmc_set21 r _ _) rfl ⟨⟨H3.out.mac.ok.c.R, H3.out.mac.ok.c.H, hvb⟩, H3.out.mac.ok.st, H3.out.mac.ok.cut⟩
        exact (H3.out.trans HP).put (HL3.out.step HP) (Nat.le_refl _) _
end Go.Proofs.YteegkhnikcioiaaGreatDoor
