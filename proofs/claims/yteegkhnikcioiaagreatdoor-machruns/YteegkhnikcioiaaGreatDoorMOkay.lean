/-
  What a trap does.
  What a processor does stays a processor's; what is asked of memory, and what is loaded, fits.
-/
import Derived.Test.YteegkhnikcioiaaGreatDoorMGone
namespace Go.Proofs.YteegkhnikcioiaaGreatDoor
open Go.ChangeShapes Go.WideShapes Go.ChangeAt Go.RowKit
open Cpu (Cp In Ac En decOk decI accA rightB)
attribute [local go_sem ↓] Cpu.loadCpu_seal Cpu.storeCpu_seal Cpu.loadIn_seal Cpu.storeIn_seal Cpu.loadAc_seal Cpu.storeAc_seal Cpu.loadEn_seal Cpu.storeEn_seal
attribute [local go_sem] Cpu.loadCpu_run Cpu.storeCpu_run Cpu.loadIn_run Cpu.storeIn_run Cpu.rowAt_at Cpu.rowAt_past Cpu.rowAt_drew Cpu.rowAt_drewN Cpu.roomCpu_new Cpu.roomIn_new Cpu.roomAt_old Cpu.roomAt_drew Cpu.roomAt_drewN Cpu.putCpu_new Cpu.putIn_new Cpu.Cp.zero_fold Cpu.In.fold Cpu.putRow_past Cpu.rowCpu_put Cpu.rowIn_put Cpu.size_put Cpu.putRow_drew Cpu.putRow_drewN Cpu.alloc_drewN Cpu.setCell_drewN Cpu.Cp.at16 Cpu.Cp.at17 Cpu.Cp.at18 Cpu.Cp.at19 Cpu.Cp.at20 Cpu.Cp.at21 Cpu.Cp.size Cpu.Cp.set16 Cpu.Cp.set17 Cpu.Cp.set18 Cpu.Cp.set19 Cpu.Cp.set20 Cpu.Cp.set21 Cpu.In.at0 Cpu.In.at1 Cpu.In.at2 Cpu.In.at3 Cpu.In.at4 Cpu.In.at5 Cpu.In.at6 Cpu.In.at7 Cpu.In.size Cpu.In.set0 Cpu.In.set1 Cpu.In.set2 Cpu.In.set3 Cpu.In.ne Cpu.Cp.ne Cpu.In.set4 Cpu.In.set5 Cpu.In.set6 Cpu.In.set7 loadMid_run storeMid_run mc_size mc_cpu Cpu.loadAc_run Cpu.storeAc_run Cpu.loadEn_run Cpu.storeEn_run Cpu.putAc_new Cpu.putEn_new Cpu.roomAc_new Cpu.roomEn_new Cpu.rowAc_put Cpu.rowEn_put Cpu.Ac.at0 Cpu.Ac.at1 Cpu.Ac.at2 Cpu.Ac.size Cpu.Ac.ne Cpu.Ac.fold Cpu.En.at0 Cpu.En.at1 Cpu.En.at2 Cpu.En.at3 Cpu.En.size Cpu.En.set0 Cpu.En.set1 Cpu.En.set2 Cpu.En.set3 Cpu.Ac.set0 Cpu.Ac.set1 Cpu.Ac.set2 Cpu.En.ne Cpu.En.fold
set_option linter.unusedVariables false

/-- A block of the walk's own. -/
structure Loc (w : World) (p b : Nat) (P : Ph) (g n : Nat) (X : Array Value) : Prop where
  row : Cpu.rowAt w g = some X
  room : Cpu.roomAt w g n = true
  lt : g < w.heap.size
  nin : ¬ MM p b P g
theorem Loc.step {w w' : World} {p b : Nat} {P P' : Ph} {g n : Nat} {X : Array Value} {m' : Ms} (h : Loc w p b P g n X) (hs : MStp w p b P w' P' m') : Loc w' p b P' g n X :=
  ⟨(rowAt_same (hs.tou.block g h.lt h.nin)).trans h.row, (roomAt_same (hs.tou.block g h.lt h.nin)).trans h.room, Nat.lt_of_lt_of_le h.lt hs.tou.size, fun e => e.elim (fun e => h.nin (.inl e)) fun e => (hs.new g e).elim (fun e => h.nin (.inr e)) fun e => absurd h.lt (by omega)⟩
theorem Loc.below {w w' : World} {p b : Nat} {P : Ph} {g n : Nat} {X : Array Value} (h : Loc w p b P g n X) (hb : Below w.heap.size w w') : Loc w' p b P g n X :=
  ⟨(rowAt_same (hb.block g h.lt)).trans h.row, (roomAt_same (hb.block g h.lt)).trans h.room, Nat.lt_of_lt_of_le h.lt hb.size, h.nin⟩
theorem Mac.notnew {w : World} {p b : Nat} {P : Ph} {m : Ms} (h : Mac w p b P m) {g : Nat} (hg : w.heap.size ≤ g) : ¬ MM p b P g := fun e => e.elim (fun e => absurd h.plt (by omega)) fun e => absurd (h.bus.lt g e) (by omega)
theorem Loc.new {w : World} {p b : Nat} {P : Ph} {m : Ms} (h : Mac w p b P m) (X : Array Value) (t : TypeId) (n : Nat) (hn : X.size = n) : Loc (w.alloc (.cells X t)) p b P w.heap.size n X :=
  ⟨Cpu.rowAt_at _ _ _ _ _ rfl, Cpu.roomAt_new _ _ _ _ _ rfl hn, by simp, h.notnew (Nat.le_refl _)⟩
theorem Loc.cell {w : World} {p b : Nat} {P : Ph} {g n : Nat} {X : Array Value} (h : Loc w p b P g n X) (j : Nat) : w.cell? ⟨g, j, none⟩ = X[j]? := Cpu.rowAt_cell h.row j
theorem heap_setCells (b x : Nat) (hx : x ≠ b) (vs : List Value) (k : Nat) (w : World) : (w.setCells b k vs).heap[x]? = w.heap[x]? := setCells_other b x hx vs k w
theorem heap_put (w : World) (b x : Nat) (hx : x ≠ b) (X : Array Value) : (Cpu.putRow w b X).heap[x]? = w.heap[x]? := by rw [Cpu.putRow_eq]; exact setCells_other b x hx _ _ _
theorem put_os (w : World) (b : Nat) (X : Array Value) : (Cpu.putRow w b X).os = w.os ∧ (Cpu.putRow w b X).tape = w.tape ∧ (Cpu.putRow w b X).output = w.output := by rw [Cpu.putRow_eq]; exact setCells_os b _ _ _
/-- A block of the walk's own is laid. -/
theorem MStp.put {w0 w : World} {p b : Nat} {P0 P : Ph} {m : Ms} (h : MStp w0 p b P0 w P m) {g n : Nat} {Y : Array Value} (hl : Loc w p b P g n Y) (hg : w0.heap.size ≤ g) (hz : 0 < g) (X : Array Value) : MStp w0 p b P0 (Cpu.putRow w g X) P m where
  mac := h.mac.keep (by rw [Cpu.size_put]; exact Nat.le_refl _) fun x hx hm => heap_put w g x (fun e => hm.elim (fun hm => hl.nin (e ▸ hm)) fun h0 => absurd hz (by omega)) X
  tou := ⟨(put_os _ _ _).1.trans h.tou.os, (put_os _ _ _).2.1.trans h.tou.tape, (put_os _ _ _).2.2.trans h.tou.output, by rw [Cpu.size_put]; exact h.tou.size, fun k hk hm => (heap_put w g k (fun e => absurd hg (by omega)) X).trans (h.tou.block k hk hm)⟩
  new := h.new
  db := h.db
theorem Loc.put {w : World} {p b : Nat} {P : Ph} {g n g' n' : Nat} {X Y : Array Value} (h : Loc w p b P g n X) (hne : g ≠ g') (Z : Array Value) : Loc (Cpu.putRow w g' Z) p b P g n X :=
  ⟨(rowAt_same (heap_put w g' g hne Z)).trans h.row, (roomAt_same (heap_put w g' g hne Z)).trans h.room, by rw [Cpu.size_put]; exact h.lt, h.nin⟩
theorem wordAt_bd {M : Nat → Int} (h : ∀ i, i < 1048576 → 0 ≤ M i ∧ M i ≤ 255) {a : Int} (a1 : a + 4 ≤ 1048576) (a0 : 0 ≤ a) : 0 ≤ wordAt M a ∧ wordAt M a ≤ 4294967295 := by
  have := tgv_bd8 (fun i => M (a.toNat + i)) 4 (fun i hi => h _ (by omega)) 4 (Nat.le_refl _)
  unfold wordAt
  exact ⟨this.1, by have := this.2; have e : (256 : Int) ^ 4 = 4294967296 := by decide
                    omega⟩
theorem gotV_bd {w : World} {b : Nat} {P : Ph} {L : Lg} (h : Bus w b P L) (a : Int) (a0 : 0 ≤ a := by decide) : 0 ≤ gotV L.M a ∧ gotV L.M a ≤ 4294967295 := by
  unfold gotV
  split
  · rename_i hw
    simp [isW] at hw
    exact wordAt_bd h.byte (by omega) a0
  · exact ⟨by decide, by decide⟩
set_option maxHeartbeats 1000000 in
theorem trap_any {w : World} {p b : Nat} {P : Ph} {m : Ms} (h : Mac w p b P m) (n : Int) : Calls Tryz.prog 69 #[.pointer (some ⟨p, 0, none⟩), .int .i64 n] w fun e w' => e = .returned (.agg (m.trapped n).1.cells) ∧ ∃ P', MStp w p b P w' P' (m.trapped n).2 := by
  have a0 : ∀ o, Below w.heap.size w (w.alloc o) := fun o => (Below.refl _ w).alloc (Nat.le_refl _) o
  have H : Hid (∀ o, MStp w p b P (w.alloc o) P m) := fun o => MStp.below h (a0 o)
  have HL : Hid (∀ e : En, Loc (w.alloc (.cells e.cells 41)) p b P w.heap.size 4 e.cells) := fun e => Loc.new h e.cells _ 4 rfl
  have big : 0 < w.heap.size := h.ways.big
  have hvb : 0 ≤ gotV m.L.M 16 ∧ gotV m.L.M 16 ≤ 4294967295 := gotV_bd h.bus 16
  clear h a0
  by_cases hn : n = 0
  · have ht : m.trapped n = (enAt 3 0, m) := by unfold Ms.trapped; rw [if_pos hn]
    rw [ht]
    subst hn
    clear ht
    go_enter Tryz.func69, Tryz.ntmps69
    go_wp2
    exact Cpu.ret_cell1 rfl rfl (Cpu.loadEn_row (Cpu.rowAt_at _ _ _ _ _ rfl)) rfl ⟨rfl, P, H.out _⟩
  · by_cases hv : gotV m.L.M 16 = 0
    · have ht : m.trapped n = ({ k := 4, t := n, a := m.c.PC, s := 0 }, m) := by unfold Ms.trapped; rw [if_neg hn, if_pos hv]
      rw [ht]
      clear ht
      go_enter Tryz.func69, Tryz.ntmps69
      go_wp2_with (go_at_call 24; refine (mword_any (H.out _).mac 16 (by decide) (by decide)).mono ?_; rw [hv]; rintro e w1 ⟨rfl, hb⟩; have H1 : Hid (MStp w p b P w1 P m) := (H.out _).trans (MStp.below (H.out _).mac hb); have HL1 : Hid (Loc w1 p b P w.heap.size 4 (enAt 0 0).cells) := (HL.out (enAt 0 0)).below hb; have c22 := H1.out.mac.five.c22; have r1 := HL1.out.room; clear hb)
      exact Cpu.ret_cell1 rfl rfl (Cpu.loadEn_row (Cpu.rowEn_put _ _ _ r1)) rfl ⟨rfl, P, H1.out.put HL1.out (Nat.le_refl _) big _⟩
    · have ht : m.trapped n = (enAt 0 0, { m with L := { m.L with M := pokeM (pokeM m.L.M 20 (n % 4294967296)) 24 m.c.PC }, c := { m.c with PC := gotV m.L.M 16 } }) := by unfold Ms.trapped; rw [if_neg hn, if_neg hv]
      rw [ht]
      clear ht
      go_enter Tryz.func69, Tryz.ntmps69
      go_wp2_with (first
        | (go_at_call 24; refine (mword_any (H.out _).mac 16 (by decide) (by decide)).mono ?_; rintro e w1 ⟨rfl, hb⟩; have H1 : Hid (MStp w p b P w1 P m) := (H.out _).trans (MStp.below (H.out _).mac hb); have HL1 : Hid (Loc w1 p b P w.heap.size 4 (enAt 0 0).cells) := (HL.out (enAt 0 0)).below hb; have c0 := H1.out.mac.five.c0; clear hb)
        | (go_at_call 109; refine (poke_any b P m.L 20 (n % 4294967296) _ H1.out.mac.bus (by decide) (by decide)).mono ?_; rintro e w2 ⟨rfl, hS⟩; have H2 : Hid (MStp w p b P w2 P { m with L := { m.L with M := pokeM m.L.M 20 (n % 4294967296) } }) := H1.out.trans (H1.out.mac.stp hS); have HL2 : Hid (Loc w2 p b P w.heap.size 4 (enAt 0 0).cells) := HL1.out.step (H1.out.mac.stp hS); have d0 := H2.out.mac.five.c0; have d22 := H2.out.mac.five.c22; clear hS c0))
      first | (go_region_held3 (fun X => X.cell? ⟨p, 0, none⟩ = some (.pointer (some ⟨b, 0, none⟩)) ∧ X.cell? ⟨p, 22, none⟩ = some (.int .u32 m.c.PC)) (first | exact ⟨d0, d22⟩ | exact ⟨e0, e22⟩) (first | (go_at_call 109; refine (poke_any b P _ 24 m.c.PC _ ((MStp.below H2.out.mac (drewNB w2 1)).mac.bus) (by decide) (by decide)).mono ?_; rintro e w3 ⟨rfl, hS⟩; have HM := MStp.below H2.out.mac (drewNB w2 1); have H3 : Hid (MStp w p b P w3 P { m with L := { m.L with M := pokeM (pokeM m.L.M 20 (n % 4294967296)) 24 m.c.PC } }) := H2.out.trans (HM.trans (HM.mac.stp hS)); have HL3 : Hid (Loc w3 p b P w.heap.size 4 (enAt 0 0).cells) := HL2.out.step (HM.trans (HM.mac.stp hS)); have e0 := H3.out.mac.five.c0; have e22 := H3.out.mac.five.c22; clear hS HM))) | fail
      all_goals
        have f22 := H3.out.mac.free (j := 22) (by omega)
        have r3 : ∀ v, Cpu.roomAt (w3.setCell ⟨p, 22, none⟩ v) w.heap.size 4 = true := fun v => (roomAt_same (Below.heap_setCell _ _ _ _ fun e => HL3.out.nin (.inl e))).trans HL3.out.room
        go_wp2
        refine Cpu.ret_cell1 rfl rfl (Cpu.loadEn_row (Cpu.rowEn_put _ _ _ (r3 _))) rfl ⟨rfl, P, ?_⟩
        have HP := H3.out.mac.put 22 (.int .u32 (gotV m.L.M 16)) (mc_set22 b _ _) rfl ⟨⟨H3.out.mac.ok.c.R, H3.out.mac.ok.c.H, hvb⟩, H3.out.mac.ok.st, H3.out.mac.ok.cut⟩
        exact (H3.out.trans HP).put (HL3.out.step HP) (Nat.le_refl _) big _
end Go.Proofs.YteegkhnikcioiaaGreatDoor

namespace Go.Proofs.YteegkhnikcioiaaGreatDoor
open Cpu (Cp In Ac En decOk decI accA rightB)
set_option linter.unusedVariables false

theorem on_ok {c : Cp} (h : c.Ok) : c.on.Ok := ⟨h.R, h.H, by show 0 ≤ (c.PC + 4) % 4294967296 ∧ (c.PC + 4) % 4294967296 ≤ 4294967295; omega⟩
theorem transf_ok {c : Cp} (i : In) {x : Int} (h : c.Ok) (x0 : 0 ≤ x) (x1 : x ≤ 4294967295) : (c.transf i x).Ok := by
  unfold Cpu.Cp.transf
  split
  · exact on_ok h
  · refine Cpu.wrote_ok c h i.A _ ?_ ?_ <;> split <;> omega
theorem aimed_ok {c : Cp} {i : In} (h : c.Ok) (hC : 0 ≤ i.C ∧ i.C < 16) : (c.aimed i).Ok := by
  have h1 := on_ok h
  unfold Cpu.Cp.aimed
  refine ⟨?_, ?_, ?_⟩
  · intro j hj
    show 0 ≤ (if i.V = true then c.on.setR 15 c.on.PC else c.on).R j ∧ _
    split
    · exact (Cpu.setR_ok c.on h1 15 c.on.PC h1.PC.1 h1.PC.2).R j hj
    · exact h1.R j hj
  · show 0 ≤ (if i.V = true then c.on.setR 15 c.on.PC else c.on).H ∧ _
    split
    · exact h1.H
    · exact h1.H
  · show 0 ≤ (if i.U = true then (c.on.PC + 4 * i.N) % 4294967296 else c.R i.C.toNat) ∧ (if i.U = true then (c.on.PC + 4 * i.N) % 4294967296 else c.R i.C.toNat) ≤ 4294967295
    split
    · omega
    · exact h.R _ (by omega)
theorem execD_ok {c : Cp} {i : In} {x : Int} (h : c.Ok) (x0 : 0 ≤ x) (x1 : x ≤ 4294967295) (ht : c.execT i = false) : (c.execD i x).Ok := by
  unfold Cpu.Cp.execD
  split
  · rename_i hr
    have R := Cpu.right_bd hr
    split
    · exact transf_ok i h x0 x1
    · split
      · unfold Cpu.Cp.branched
        split
        · exact aimed_ok h R.C
        · exact on_ok h
      · rename_i f2 f3
        have hF : i.F = 0 ∨ i.F = 1 := by
          rcases R.F with ⟨f, _⟩ | ⟨f, _⟩ | ⟨f, _⟩ | ⟨f, _⟩
          · exact .inl f
          · exact .inr f
          · exact absurd f f2
          · exact absurd f f3
        have htr : c.trapsB i = false := by
          unfold Cpu.Cp.execT at ht
          rw [hr, decide_eq_true hF] at ht
          simpa using ht
        exact (Cpu.operated_goes c i h hr hF htr).2
  · exact h
theorem acc_bd {c : Cp} {i : In} (h : c.Ok) : (0 ≤ (accA c i).D ∧ (accA c i).D ≤ 4294967295) ∧ (0 ≤ (accA c i).V ∧ (accA c i).V ≤ 4294967295) := by
  unfold accA
  split
  · rename_i hr
    have R := Cpu.right_bd hr.1
    have hA := h.R i.A.toNat (by have := R.A; omega)
    refine ⟨by constructor <;> dsimp only <;> omega, ?_⟩
    show 0 ≤ Cpu.accV i.U i.V (c.R i.A.toNat) ∧ Cpu.accV i.U i.V (c.R i.A.toNat) ≤ 4294967295
    unfold Cpu.accV
    repeat' split
    all_goals omega
  · exact ⟨⟨by decide, by decide⟩, by decide, by decide⟩
theorem zero_bd : (0 : Int) ≤ 0 ∧ (0 : Int) ≤ 4294967295 := ⟨by decide, by decide⟩
theorem dev_bd {w : World} {b : Nat} {P : Ph} {L : Lg} (h : Bus w b P L) : ∀ d : Nat, 0 ≤ (L.dev d).1.1 ∧ (L.dev d).1.1 ≤ 4294967295
  | 0 => h.tk
  | 1 => by
    unfold Lg.dev
    cases hI : L.I with
    | nil => exact zero_bd
    | cons x r =>
      have := h.inp.byte x (by rw [hI]; simp)
      exact ⟨this.1, by show x ≤ 4294967295; omega⟩
  | 2 => by
    show 0 ≤ (if L.I = [] then (2 : Int) else 3) ∧ (if L.I = [] then (2 : Int) else 3) ≤ 4294967295
    split <;> exact ⟨by decide, by decide⟩
  | 3 => h.sc
  | 4 => h.ad
  | 5 => h.cm
  | 6 => by
    show 0 ≤ (L.n : Int) ∧ (L.n : Int) ≤ 4294967295
    have := h.dsk.n1
    have := h.dn
    omega
  | _ + 7 => zero_bd
theorem did_bd {w : World} {b : Nat} {P : Ph} {L : Lg} (h : Bus w b P L) (k a v : Int) (a0 : 0 ≤ a) : 0 ≤ (L.step k a v).1.1 ∧ (L.step k a v).1.1 ≤ 4294967295 := by
  unfold Lg.step
  split
  · exact zero_bd
  · split
    · unfold Lg.load
      split
      · rename_i hw
        simp [isW] at hw
        exact wordAt_bd h.byte (by omega) a0
      · exact dev_bd h _
    · split
      · unfold Lg.ldb
        split
        · have := h.byte a.toNat (by omega)
          exact ⟨this.1, by show L.M a.toNat ≤ 4294967295; omega⟩
        · exact zero_bd
      · split
        · exact zero_bd
        · split <;> exact zero_bd
theorem word_bd {w : World} {p b : Nat} {P : Ph} {m : Ms} (h : Mac w p b P m) : 0 ≤ m.word ∧ m.word ≤ 4294967295 := gotV_bd h.bus _ h.ok.c.PC.1
end Go.Proofs.YteegkhnikcioiaaGreatDoor
