/-
  A row of words that is handed to a machine, and how it lies.
  A machine that a law makes; the document's beside it is made, too.
-/
import Derived.Test.YteegkhnikcioiaaGreatDoorMVec
import Derived.Test.YteegkhnikcioiaaGreatDoorMBRNew
import Derived.Laws.IdiomCopy
import Derived.Deep.DeepCutAuto
namespace Go.Proofs.YteegkhnikcioiaaGreatDoor
open Go.ChangeShapes Go.WideShapes Go.ChangeAt Go.RowKit
open Cpu (Cp In Ac En decOk decI accA rightB)
set_option linter.unusedVariables false
set_option linter.unusedSimpArgs false

theorem sizeU : (Tryz.prog.info? 23).map (·.size) = some 1 := by kernel_rfl
def rowU (f : Nat → Int) (len : Nat) : List Value := (List.range len).map fun i => .int .u32 (f i)
theorem rowU_len (f : Nat → Int) (n : Nat) : (rowU f n).length = n := by simp [rowU]
theorem rowU_at (f : Nat → Int) {n i : Nat} (h : i < n) : (rowU f n)[i]? = some (.int .u32 (f i)) := by simp [rowU, h]
theorem rowU_one (f : Nat → Int) (len : Nat) : ∀ u ∈ rowU f len, u.oneCell' = true := by
  intro u hu
  simp [rowU] at hu
  obtain ⟨i, _, rfl⟩ := hu
  rfl
theorem copyU {w : World} {g n : Nat} {old f : Nat → Int} (h : URow w g n old) (dl dc : Nat) (a : Option Addr) (len cap : Nat) (hl : len ≤ dl) (hdn : dl ≤ n) (hr : RdW w a len f) : ∃ w', (Builtin.copy_ #[22, 22] 3 #[.slice (some ⟨g, 0, none⟩) dl dc, .slice a len cap]).run Tryz.prog w = .ok (.int .i64 len) w' ∧ Tou (fun x => x = g) w w' := by
  by_cases h0 : len = 0
  · subst h0
    exact ⟨w, run_copy_none (P := Tryz.prog) w _ _ 3 23 _ _ _ _ _ _ Tryz.underlying22 sizeU (by simp), Tou.refl _ _⟩
  · rcases hr.2 with e | ⟨b, off, rfl, hc⟩
    · exact absurd e h0
    · obtain ⟨cur, hg, hs, hcur⟩ := h.row
      have hll : (rowU f len).length = len := rowU_len f len
      have e := run_copy_row (P := Tryz.prog) w 22 22 3 23 g 0 dl dc ⟨b, off, none⟩ len cap cur 23 (rowU f len) Tryz.underlying22 sizeU hg (by rw [hll]; exact (Nat.min_eq_left hl).symm)
        (fun j v hj => by
          have hjl : j < len := by have := (List.getElem?_eq_some_iff.1 hj).1; rwa [hll] at this
          rw [Addr.add_mid, (hc j hjl).1, ← hj, rowU_at f hjl]) (by rw [hll, hs]; omega) (rowU_one f len)
      rw [hll] at e
      exact ⟨_, e, ⟨rfl, rfl, rfl, by simp, fun k hk hm => setRow_other w g k _ hm⟩⟩
theorem make_lent (W : World) (len : Nat) (hl : len ≤ 35184372087808) : ∃ w2, (Instr.makeSlice 22 (.int .i64 0) (.int .i64 ((len : Int) + 2))).run Tryz.prog W = .ok (.slice (some ⟨W.heap.size, 0, none⟩) 0 (len + 2)) w2 ∧ URow w2 W.heap.size (len + 2) (fun _ => 0) ∧ Below W.heap.size W w2 := by
  obtain ⟨i0, hi, hz0, hz1, hz2⟩ := info_parts infoU
  have e := run_make (P := Tryz.prog) W 22 23 i0 (.int .u32 0) Tryz.underlying22 hi hz0 .i64 .i64 0 ((len : Int) + 2) (by omega) (by omega) (by rw [hz2]; omega) (by omega)
  rw [hz1, Nat.mul_one, show ((len : Int) + 2).toNat = len + 2 by omega] at e
  have em : madeCells (Value.int .u32 0).cells (len + 2) = (List.replicate (len + 2) (.int .u32 0)).toArray := by
    apply Array.ext'
    simpa [Value.cells] using toList_madeCells_one (.int .u32 0) (len + 2)
  rw [em] at e
  exact ⟨_, e, ⟨_, heap_alloc_last W _, by simp, fun i hi => by simp [hi]⟩, (Below.refl _ W).alloc (Nat.le_refl _) _⟩
def lentF (f : Nat → Int) (len k i : Nat) : Int := if i < k then 2004318071 else if i < len then f i else 0
theorem lent_next (f : Nat → Int) (len k : Nat) : upd (lentF f len k) k 2004318071 = lentF f len (k + 1) := by
  funext i
  by_cases e : i = k
  · subst e; rw [upd_at]; unfold lentF; rw [if_pos (by omega)]
  · rw [upd_ne _ _ e]; unfold lentF
    by_cases h : i < k
    · rw [if_pos h, if_pos (by omega)]
    · rw [if_neg h, if_neg (c := i < k + 1) (by omega)]
theorem setCells_size (b : Nat) : ∀ (vs : List Value) (k : Nat) (w : World), (w.setCells b k vs).heap.size = w.heap.size := fun vs k w => size_setCells b vs k w
theorem app_lent {w3 : World} {g len : Nat} {f : Nat → Int} (h : URow w3 g (len + 2) (fun _ => 0)) (a : Option Addr) (cap : Nat) (hr : RdW w3 a len f) : ∃ w4, (Builtin.append_ #[22, 22] 22 #[.slice (some ⟨g, 0, none⟩) 0 (len + 2), .slice a len cap]).run Tryz.prog w3 = .ok (.slice (some ⟨g, 0, none⟩) len (len + 2)) w4 ∧ URow w4 g (len + 2) (lentF f len 0) ∧ Tou (fun x => x = g) w3 w4 := by
  obtain ⟨i0, hi, hz0, hz1, hz2⟩ := info_parts infoU
  by_cases h0 : len = 0
  · subst h0
    refine ⟨w3, ?_, h.ext fun i _ => by unfold lentF; simp, Tou.refl _ _⟩
    have hu : Tryz.prog.underlying 22 = some (.slice 23) := Tryz.underlying22
    cases a with
    | none => simp [Builtin.append_, go_sem, hu, hi]
    | some p => simp [Builtin.append_, go_sem, hu, hi]
  · rcases hr.2 with e | ⟨b, off, rfl, hc⟩
    · exact absurd e h0
    · obtain ⟨cur, hg, hs, hcur⟩ := h.row
      have hll : (rowU f len).length = len := rowU_len f len
      have e := run_append_room_cells (P := Tryz.prog) w3 22 22 23 i0 Tryz.underlying22 hi g 0 0 (len + 2) ⟨b, off, none⟩ len cap (rowU f len) (by rw [hz1, Nat.mul_one, hll])
        (fun j v hj => by
          have hjl : j < len := by have := (List.getElem?_eq_some_iff.1 hj).1; rwa [hll] at this
          rw [Addr.add_mid, (hc j hjl).1, ← hj, rowU_at f hjl]) (rowU_one f len) (by omega)
        (fun j hj => by rw [hll] at hj; have := (h.at (k := j) (by omega)).1; simp [this]) (fun j hj => by rw [hll] at hj; have := (h.at (k := j) (by omega)).2; simpa using this)
      rw [Nat.zero_add] at e
      have b6 := setCells_heap (rowU f len) (0 + 0 * i0.size) w3 _ hg
      refine ⟨_, e, ⟨_, by simpa using b6, by simpa [putList_size] using hs, fun i hi => ?_⟩, ⟨(setCells_os _ _ _ _).1, (setCells_os _ _ _ _).2.1, (setCells_os _ _ _ _).2.2, by rw [size_setCells]; exact Nat.le_refl _, fun k hk hm => setCells_other _ _ hm _ _ _⟩⟩
      rw [putList_at _ _ _ _ (by omega), hll]
      unfold lentF
      rw [if_neg (c := i < 0) (by omega)]
      by_cases h1 : i < len
      · rw [if_pos (by omega), if_pos h1, Nat.sub_zero, rowU_at f h1]
      · rw [if_neg (by omega), if_neg h1]; exact hcur i hi
end Go.Proofs.YteegkhnikcioiaaGreatDoor

namespace Go.Proofs.YteegkhnikcioiaaGreatDoor
open Go.ChangeShapes Go.WideShapes Go.ChangeAt Go.RowKit
open Cpu (Cp In Ac En decOk decI accA rightB)
attribute [local go_sem ↓] Cpu.loadCpu_seal Cpu.storeCpu_seal Cpu.loadIn_seal Cpu.storeIn_seal Cpu.loadAc_seal Cpu.storeAc_seal Cpu.loadEn_seal Cpu.storeEn_seal
attribute [local go_sem] Cpu.loadCpu_run Cpu.storeCpu_run Cpu.loadIn_run Cpu.storeIn_run Cpu.rowAt_at Cpu.rowAt_past Cpu.rowAt_drew Cpu.rowAt_drewN Cpu.roomCpu_new Cpu.roomIn_new Cpu.roomAt_old Cpu.roomAt_drew Cpu.roomAt_drewN Cpu.putCpu_new Cpu.putIn_new Cpu.Cp.zero_fold Cpu.In.fold Cpu.putRow_past Cpu.rowCpu_put Cpu.rowIn_put Cpu.size_put Cpu.putRow_drew Cpu.putRow_drewN Cpu.alloc_drewN Cpu.setCell_drewN Cpu.Cp.at16 Cpu.Cp.at17 Cpu.Cp.at18 Cpu.Cp.at19 Cpu.Cp.at20 Cpu.Cp.at21 Cpu.Cp.size Cpu.Cp.set16 Cpu.Cp.set17 Cpu.Cp.set18 Cpu.Cp.set19 Cpu.Cp.set20 Cpu.Cp.set21 Cpu.In.at0 Cpu.In.at1 Cpu.In.at2 Cpu.In.at3 Cpu.In.at4 Cpu.In.at5 Cpu.In.at6 Cpu.In.at7 Cpu.In.size Cpu.In.set0 Cpu.In.set1 Cpu.In.set2 Cpu.In.set3 Cpu.In.ne Cpu.Cp.ne Cpu.In.set4 Cpu.In.set5 Cpu.In.set6 Cpu.In.set7 loadMid_run storeMid_run mc_size mc_cpu Cpu.loadAc_run Cpu.storeAc_run Cpu.loadEn_run Cpu.storeEn_run Cpu.putAc_new Cpu.putEn_new Cpu.roomAc_new Cpu.roomEn_new Cpu.rowAc_put Cpu.rowEn_put Cpu.Ac.at0 Cpu.Ac.at1 Cpu.Ac.at2 Cpu.Ac.size Cpu.Ac.ne Cpu.Ac.fold Cpu.En.at0 Cpu.En.at1 Cpu.En.at2 Cpu.En.at3 Cpu.En.size Cpu.En.set0 Cpu.En.set1 Cpu.En.set2 Cpu.En.set3 Cpu.Ac.set0 Cpu.Ac.set1 Cpu.Ac.set2 Cpu.En.ne Cpu.En.fold
set_option linter.unusedVariables false

set_option maxHeartbeats 1000000 in
theorem rbnew_weak (a : Option Addr) (len cap rd : Nat) (f : Nat → Int) (w : World) (hl : len ≤ 262144) (hr : RdW w a len f) : Calls Tryz.prog 49 #[.slice a len cap, .pointer (some ⟨rd, 0, none⟩)] w fun e w' => ∃ r, e = .returned (.tuple #[.pointer (some ⟨r, 0, none⟩), .int .i64 0]) ∧ Below w.heap.size w w' := by
  obtain ⟨i0, hi, hz0, hz1, hz2⟩ := info_parts infoU
  have h1 : ¬ (262144 : Int) < (len : Int) := by omega
  have HR : Hid (RdW w a len f) := hr
  clear hr
  go_enter Tryz.func49, Tryz.ntmps49
  go_wp2_with (at_make; refine wpList_make_full _ rfl _ _ 22 rfl w.heap.size 23 i0 (.int .u32 0) 1 Tryz.underlying22 hi hz0 hz1 .i64 .i64 _ _ 262144 rfl rfl rfl rfl (by rw [hz2]; decide) (by decide) (Nat.le_refl _) ?_; intro w2 hown2 hgrow2; have hb2 : Below w.heap.size w w2 := (Below.refl _ w).grown hgrow2 (Nat.le_refl _) (fun k hk => by cases hk); obtain ⟨w3, hr3, ht3⟩ := copyU (URow.made hown2) 262144 262144 a len cap hl (by omega) (HR.out.over hb2); have HE : Hid (Below w.heap.size w w3) := hb2.trans (ht3.below hb2.size (fun x hx => Nat.le_of_eq (Eq.symm hx))); clear hown2 hgrow2 hb2 ht3)
  go_ret2
  first | exact ⟨⟨_, rfl⟩, HE.out.alloc HE.out.size _⟩ | exact ⟨_, rfl, HE.out.alloc HE.out.size _⟩
def rfresh (b : Nat) : Array Value := #[.int .u32 0, .int .u32 0, .int .u32 0, .int .u32 0, .int .u32 0, .int .u32 0, .int .u32 0, .int .u32 0, .int .u32 0, .int .u32 0, .int .u32 0, .int .u32 0, .int .u32 0, .int .u32 0, .int .u32 0, .int .u32 0, .int .u32 0, .bool false, .bool false, .bool false, .bool false, .int .u32 0, .pointer (some ⟨b, 0, none⟩), .int .i64 (-1), .int .i64 0]
theorem rfresh_ne (b : Nat) : (rfresh b = #[]) = False := by simp [rfresh]
theorem rfresh_21 (b : Nat) : (rfresh b)[21]? = some (.int .u32 0) := rfl
theorem rfresh_size (b : Nat) : (rfresh b).size = 25 := rfl
def buildRef (parts : Array (Nat × Value)) : Sem Value := Instr.build 78 parts
theorem buildRef_seal (parts : Array (Nat × Value)) : Instr.build 78 parts = buildRef parts := rfl
theorem buildRef_run (b : Nat) (X : World) : (buildRef #[(1, .pointer (some ⟨b, 0, none⟩)), (2, .int .i64 (-1))]).run Tryz.prog X = .ok (.agg (rfresh b)) X := by kernel_rfl
attribute [local go_sem ↓] buildRef_seal
attribute [local go_sem] buildRef_run rfresh_ne rfresh_21 rfresh_size
def goodS (len : Nat) (en : Int) : Bool := decide (len ≤ 262144) && isW en
set_option maxHeartbeats 1000000 in
set_option maxRecDepth 20000 in
theorem rmnew_weak (a : Option Addr) (len cap rd : Nat) (f : Nat → Int) (en : Int) (w : World) (hr : RdW w a len f) (e0 : 0 ≤ en) (e1 : en ≤ 4294967295) : Calls Tryz.prog 29 #[.agg #[.slice a len cap, .int .u32 en], .pointer (some ⟨rd, 0, none⟩)] w fun e w' => ∃ v : Option Addr, ∃ k : Int, e = .returned (.tuple #[.pointer v, .int .i64 k]) ∧ Below w.heap.size w w' := by
  have HR : Hid (∀ o, RdW (w.alloc o) a len f) := fun o => hr.over (al o)
  clear hr
  by_cases hl : len ≤ 262144
  · have h1 : ¬ (262144 : Int) < (len : Int) := by omega
    by_cases h4 : en % 4 = 0
    · by_cases h5 : en < 1048576
      · go_enter Tryz.func29, Tryz.ntmps29
        go_wp2_with (go_at_call 49; refine (rbnew_weak a len cap rd f _ hl (HR.out _)).mono ?_; rintro e w1 ⟨r, rfl, hb⟩; have H1 : Hid (Below w.heap.size w w1) := (al _).trans (hb.mono (al _).size); have c1 : w1.cell? ⟨w.heap.size, 1, none⟩ = some (.int .u32 en) := (hb.cell (p := ⟨w.heap.size, 1, none⟩) (by simp)).trans (by simp); have l1 : w.heap.size < w1.heap.size := (by have := hb.size; simp at this; omega); clear hb)
        go_ret2
        first | exact ⟨⟨_, _, rfl⟩, H1.out.alloc H1.out.size _⟩ | exact ⟨_, _, rfl, H1.out.alloc H1.out.size _⟩
      · go_enter Tryz.func29, Tryz.ntmps29
        go_wp2_with fail
        go_ret2
        first | exact ⟨⟨none, 50, rfl⟩, al _⟩ | exact ⟨none, 50, rfl, al _⟩
    · go_enter Tryz.func29, Tryz.ntmps29
      go_wp2_with fail
      go_ret2
      first | exact ⟨⟨none, 50, rfl⟩, al _⟩ | exact ⟨none, 50, rfl, al _⟩
  · have h1 : (262144 : Int) < (len : Int) := by omega
    go_enter Tryz.func29, Tryz.ntmps29
    go_wp2_with fail
    go_ret2
    first | exact ⟨⟨none, 50, rfl⟩, al _⟩ | exact ⟨none, 50, rfl, al _⟩
/-- How many sectors. -/
def secN (n : Int) : Nat := if n < 8 ∨ 64 < n then 8 else n.toNat
theorem secN_bd (n : Int) : 8 ≤ secN n ∧ secN n ≤ 1024 := by unfold secN; split <;> omega
def makeU (x y : Value) : Sem Value := Instr.makeSlice 22 x y
theorem makeU_seal (x y : Value) : Instr.makeSlice 22 x y = makeU x y := rfl
def appU (t : Array TypeId) (r : TypeId) (xs : Array Value) : Sem Value := Builtin.append_ t r xs
theorem appU_seal (t : Array TypeId) (r : TypeId) (xs : Array Value) : Builtin.append_ t r xs = appU t r xs := rfl
attribute [local go_sem ↓] makeU_seal appU_seal
theorem URow.rdL {w w0 : World} {g n len : Nat} {f : Nat → Int} {a : Option Addr} (h : URow w g n (lentF f len 0)) (hl : len ≤ n) (hr : RdW w0 a len f) : RdW w (some ⟨g, 0, none⟩) len f :=
  ⟨hr.1, .inr ⟨g, 0, rfl, fun i hi => by
    obtain ⟨_, _, _, _, b0, b1⟩ := hr.at hi
    refine ⟨?_, b0, b1⟩
    rw [Nat.zero_add, (h.at (k := i) (by omega)).1]
    unfold lentF
    rw [if_neg (by omega), if_pos hi]⟩⟩
theorem MOwn.set {w X : World} {p b : Nat} {P : Ph} {m : Ms} (h : MOwn w p b P m X) {g : Nat} (hg : ¬ MM p b P g) (hz : 0 < g) (k : Nat) (v : Value) (hw : w.heap.size ≤ g) : MOwn w p b P m (X.setCell ⟨g, k, none⟩ v) :=
  ⟨h.mac.keep (by simp) fun x _ hx => Below.heap_setCell _ _ _ _ fun e => by
    have e : x = g := e
    subst e
    exact hx.elim hg fun e0 => by omega, h.below.setCell hw _, h.new⟩
theorem ret_tmp4 {P : Program} {fn : Func} {R : Ending → World → Prop} {a : Act} {w : World} {p q r s : Tmp} (h : fn.results = #[.tmp p, .tmp q, .tmp r, .tmp s]) (hd : a.defers = []) (hR : R (.returned (.tuple #[a.tmps.getD p undef, a.tmps.getD q undef, a.tmps.getD r undef, a.tmps.getD s undef])) w) : bodyPost P fn R .ret a w := by
  refine bodyPost_ret (v := .tuple #[a.tmps.getD p undef, a.tmps.getD q undef, a.tmps.getD r undef, a.tmps.getD s undef]) ?_ hd hR
  simp [results, h]
def MadeOk (w : World) (f : Nat → Int) (len : Nat) (en : Int) (N : Nat) (e : Ending) (w' : World) : Prop := ∃ p b P D, ∃ v : Option Addr, ∃ k : Int, e = .returned (.tuple #[.pointer (some ⟨p, 0, none⟩), .int .i64 0, .pointer v, .int .i64 k]) ∧ MOwn w p b P (Ms.new f len D en) w' ∧ D.n = N ∧ D.m = 0 ∧ D.S = (fun _ _ => 0)
theorem MadeOk.of {w : World} {f : Nat → Int} {len : Nat} {en : Int} {N : Nat} {e : Ending} {w' : World} (h : ∃ p b P D, ∃ v : Option Addr, ∃ k : Int, e = .returned (.tuple #[.pointer (some ⟨p, 0, none⟩), .int .i64 0, .pointer v, .int .i64 k]) ∧ MOwn w p b P (Ms.new f len D en) w' ∧ D.n = N ∧ D.m = 0 ∧ D.S = (fun _ _ => 0)) : MadeOk w f len en N e w' := h
def MadeNo (w : World) (e : Ending) (w' : World) : Prop := ∃ v : Option Addr, ∃ k : Int, e = .returned (.tuple #[.pointer none, .int .i64 50, .pointer v, .int .i64 k]) ∧ Below w.heap.size w w'
theorem MadeNo.of {w : World} {e : Ending} {w' : World} (h : ∃ v : Option Addr, ∃ k : Int, e = .returned (.tuple #[.pointer none, .int .i64 50, .pointer v, .int .i64 k]) ∧ Below w.heap.size w w') : MadeNo w e w' := h
/-- What is held when the row was made. -/
structure Lent (w : World) (a : Option Addr) (len cap : Nat) (f : Nat → Int) (w2 w3 w4 : World) : Prop where
  mak : (makeU (.int .i64 0) (.int .i64 ((len : Int) + 2))).run Tryz.prog w2 = .ok (.slice (some ⟨w2.heap.size, 0, none⟩) 0 (len + 2)) w3
  ap : (appU #[22, 22] 22 #[.slice (some ⟨w2.heap.size, 0, none⟩) 0 (len + 2), .slice a len cap]).run Tryz.prog w3 = .ok (.slice (some ⟨w2.heap.size, 0, none⟩) len (len + 2)) w4
  row : URow w4 w2.heap.size (len + 2) (lentF f len 0)
  b3 : Below w2.heap.size w2 w3
  b4 : Below w2.heap.size w2 w4
theorem lent_is {w w2 : World} {a : Option Addr} {len : Nat} (cap : Nat) {f : Nat → Int} (hr : RdW w a len f) (hl : len ≤ 35184372087808) (hb : Below w.heap.size w w2) : ∃ w3 w4, Lent w a len cap f w2 w3 w4 := by
  obtain ⟨w3, hr3, hW3, hb3⟩ := make_lent w2 len hl
  obtain ⟨w4, hr4, hW4, ht4⟩ := app_lent hW3 a cap (hr.over (hb.trans (hb3.mono hb.size)))
  exact ⟨w3, w4, hr3, hr4, hW4, hb3, hb3.trans (ht4.below hb3.size fun x hx => Nat.le_of_eq (Eq.symm hx))⟩
set_option maxHeartbeats 800000 in
set_option maxRecDepth 20000 in
theorem made_okA (a : Option Addr) (len cap : Nat) (f : Nat → Int) (en sec : Int) (w : World) (hW : Cpu.Ways w) (hr : RdW w a len f) (hlen : len ≤ 35184372087808) (e0 : 0 ≤ en) (e1 : en ≤ 4294967295) (hs : sec < 8) (hg : goodS len en = true) : Calls Tryz.prog 10 #[.agg #[.slice a len cap, .int .u32 en, .int .i64 sec]] w fun e w' => MadeOk w f len en 8 e w' := by
  have HR : Hid (RdW w a len f) := hr
  have HW : Hid (Cpu.Ways w) := hW
  have HC : Hid (∀ X, Below (w.alloc (.cells #[.slice a len cap, .int .u32 en, .int .i64 sec] 25)).heap.size (w.alloc (.cells #[.slice a len cap, .int .u32 en, .int .i64 sec] 25)) X → X.cell? ⟨w.heap.size, 0, none⟩ = some (.slice a len cap) ∧ X.cell? ⟨w.heap.size, 1, none⟩ = some (.int .u32 en) ∧ Below w.heap.size w X) := fun X hX => ⟨(hX.cell (p := ⟨w.heap.size, 0, none⟩) (by simp)).trans (by simp), (hX.cell (p := ⟨w.heap.size, 1, none⟩) (by simp)).trans (by simp), (al _).trans (hX.mono (al _).size)⟩
  have hwr : IntKind.i64.wrap ((len : Int) + 2) = (len : Int) + 2 := by rw [IntWalk.i64_left, IntWalk.wrap64_in]; omega
  have gl : len ≤ 262144 := by simp [goodS] at hg; exact hg.1
  have gw : isW en = true := by simp [goodS] at hg; exact hg.2
  clear hr hW hg
  go_enter Tryz.func10, Tryz.ntmps10
  go_upto_region 6 with (first
    | (go_at_call 22; refine (new_some 8 _ (by omega) (by omega)).mono ?_; rintro e w1 ⟨db, D, rfl, hR, hn, hm, hS, hF, hfr, hb1⟩; have HD : Hid (Rep w1 db D ∧ D.n = 8 ∧ D.m = 0 ∧ D.fresh db w.heap.size ∧ Below (w.alloc (.cells #[.slice a len cap, .int .u32 en, .int .i64 sec] 25)).heap.size (w.alloc (.cells #[.slice a len cap, .int .u32 en, .int .i64 sec] 25)) w1) := ⟨hR, hn, hm, fun x hx => Nat.le_trans (al _).size (hfr x hx), hb1⟩; have HSz : Hid (D.S = (fun _ _ => 0)) := hS; clear hR hn hm hS hF hfr hb1)
    | (go_at_call 28; refine (rnew_some 8 _ (by omega) (by omega)).mono ?_; rintro e w2 ⟨rd, R, rfl, _, _, _, _, _, hb2⟩; have HE : Hid (Rep w2 db D ∧ Below (w.alloc (.cells #[.slice a len cap, .int .u32 en, .int .i64 sec] 25)).heap.size (w.alloc (.cells #[.slice a len cap, .int .u32 en, .int .i64 sec] 25)) w2) := ⟨HD.out.1.below hb2, HD.out.2.2.2.2.trans (hb2.mono HD.out.2.2.2.2.size)⟩; clear hb2))
  obtain ⟨w3, w4, HT0⟩ := lent_is cap HR.out hlen (HC.out w2.drew (HE.out.2.trans ((drB w2).mono HE.out.2.size))).2.2
  have hmk : (makeU (.int .i64 0) (.int .i64 ((len : Int) + 2))).run Tryz.prog w2.drew = .ok (.slice (some ⟨w2.heap.size, 0, none⟩) 0 (len + 2)) w3 := HT0.mak
  have hap : (appU #[22, 22] 22 #[.slice (some ⟨w2.heap.size, 0, none⟩) 0 (len + 2), .slice a len cap]).run Tryz.prog w3 = .ok (.slice (some ⟨w2.heap.size, 0, none⟩) len (len + 2)) w4 := HT0.ap
  have HT : Hid (Lent w a len cap f w2.drew w3 w4) := HT0
  have B3 : Below (w.alloc (.cells #[.slice a len cap, .int .u32 en, .int .i64 sec] 25)).heap.size (w.alloc (.cells #[.slice a len cap, .int .u32 en, .int .i64 sec] 25)) w3 := (HE.out.2.trans ((drB w2).mono HE.out.2.size)).trans (HT0.b3.mono (Nat.le_trans HE.out.2.size (drB w2).size))
  have B4 : Below (w.alloc (.cells #[.slice a len cap, .int .u32 en, .int .i64 sec] 25)).heap.size (w.alloc (.cells #[.slice a len cap, .int .u32 en, .int .i64 sec] 25)) w4 := (HE.out.2.trans ((drB w2).mono HE.out.2.size)).trans (HT0.b4.mono (Nat.le_trans HE.out.2.size (drB w2).size))
  have s0 := (HC.out w2.drew (HE.out.2.trans ((drB w2).mono HE.out.2.size))).1
  have s1 := (HC.out w3 B3).1
  have s2 := (HC.out w4 B4).1
  have t2 := (HC.out w4 B4).2.1
  have HB4 : Hid (Below (w.alloc (.cells #[.slice a len cap, .int .u32 en, .int .i64 sec] 25)).heap.size (w.alloc (.cells #[.slice a len cap, .int .u32 en, .int .i64 sec] 25)) w4) := B4
  clear HT0 B3 B4
  go_wp2_with fail
  go_region_held3 (fun X => X.cell? ⟨w.heap.size, 0, none⟩ = some (.slice a len cap)) (first | exact s0 | exact s1 | exact s2) (fail)
  go_wp2_with (first
    | (go_at_call 23; refine (mnew_ok _ len _ db f D en _ (HW.out.below (HC.out w4 HB4.out).2.2 HW.out.big) (HE.out.1.below ((drB w2).trans (HT.out.b4.mono (drB w2).size))) (fun x hx => Nat.lt_of_lt_of_le HW.out.big (HD.out.2.2.2.1 x hx)) gl (HT.out.row.rdL (by omega) HR.out) e0 e1 gw).mono ?_; rintro e w5 ⟨p, b, P, rfl, hM, hdb, hPD, hall, hb5⟩; have HM : Hid (MOwn w p b P (Ms.new f len D en) w5) := ⟨hM, (HC.out w4 HB4.out).2.2.trans (hb5.mono (HC.out w4 HB4.out).2.2.size), fun x hx => (hall x hx).elim (HD.out.2.2.2.1 x) fun e => Nat.le_trans (HC.out w4 HB4.out).2.2.size e⟩; have HG : Hid (URow w5 w2.heap.size (len + 2) (lentF f len 0) ∧ ¬ MM p b P w2.heap.size) := ⟨HT.out.row.same (hb5.block _ HT.out.row.lt), fun e => (hall _ e).elim (fun e => absurd (HE.out.1.lt _ e) (by omega)) fun e => absurd HT.out.row.lt (by have : w2.drew.heap.size = w2.heap.size := rfl; omega)⟩; have HB5 : Hid (Below (w.alloc (.cells #[.slice a len cap, .int .u32 en, .int .i64 sec] 25)).heap.size (w.alloc (.cells #[.slice a len cap, .int .u32 en, .int .i64 sec] 25)) w5) := HB4.out.trans (hb5.mono HB4.out.size); have u0 := (HC.out w5 HB5.out).1; have u1 := (HC.out w5 HB5.out).2.1; clear hM hdb hPD hall hb5)
    | (go_at_call 29; refine (rmnew_weak a len cap rd f en _ (HR.out.over HM.out.below) e0 e1).mono ?_; rintro e w6 ⟨v6, k6, rfl, hb6⟩; have HM6 : Hid (MOwn w p b P (Ms.new f len D en) w6 ∧ URow w6 w2.heap.size (len + 2) (lentF f len 0)) := ⟨HM.out.next hb6, HG.out.1.same (hb6.block _ HG.out.1.lt)⟩; clear hb6))
  go_loopw [16] (fun i X => ∃ k : Nat, k ≤ len ∧ i = .int .i64 k ∧ MOwn w p b P (Ms.new f len D en) X ∧ URow X w2.heap.size (len + 2) (lentF f len k)) (fun i _ => len - (intOf i).toNat)
  case atStart => exact ⟨0, Nat.zero_le _, rfl, HM6.out.1, HM6.out.2⟩
  case round =>
    obtain ⟨k, hk, rfl, hX, hU⟩ := hrel
    have HX : Hid (MOwn w p b P (Ms.new f len D en) wr ∧ URow wr w2.heap.size (len + 2) (lentF f len k)) := ⟨hX, hU⟩
    clear hX
    by_cases hlt : k < len
    · have cg := (hU.at (k := k) (by omega)).1
      have fg := (hU.at (k := k) (by omega)).2
      have j0 : (0 : Int) ≤ (k : Int) := by omega
      have j1 : (k : Int) < (len : Int) := by omega
      clear hU
      go_wp2_with fail
      go_roundw
      case rel => exact ⟨k + 1, by omega, by go_num, HX.out.1.set HG.out.2 (Nat.lt_of_lt_of_le HW.out.big (Nat.le_trans (HC.out w2 HE.out.2).2.2.size (Nat.le_refl _))) k _ (HC.out w2 HE.out.2).2.2.size, by have := HX.out.2.set (k := k) (by omega) 2004318071; rwa [lent_next] at this⟩
      case measure => simp [intOf]; omega
    · have j1 : ¬ (k : Int) < (len : Int) := by omega
      clear hU
      go_wp2_with fail
      refine ret_tmp4 rfl rfl ?_
      exact MadeOk.of ⟨p, b, P, D, v6, k6, rfl, HX.out.1, HD.out.2.1, HD.out.2.2.1, HSz.out⟩
set_option maxHeartbeats 800000 in
set_option maxRecDepth 20000 in
theorem made_okB (a : Option Addr) (len cap : Nat) (f : Nat → Int) (en sec : Int) (w : World) (hW : Cpu.Ways w) (hr : RdW w a len f) (hlen : len ≤ 35184372087808) (e0 : 0 ≤ en) (e1 : en ≤ 4294967295) (hs : ¬ sec < 8) (hs2 : 64 < sec) (hg : goodS len en = true) : Calls Tryz.prog 10 #[.agg #[.slice a len cap, .int .u32 en, .int .i64 sec]] w fun e w' => MadeOk w f len en 8 e w' := by
  have HR : Hid (RdW w a len f) := hr
  have HW : Hid (Cpu.Ways w) := hW
  have HC : Hid (∀ X, Below (w.alloc (.cells #[.slice a len cap, .int .u32 en, .int .i64 sec] 25)).heap.size (w.alloc (.cells #[.slice a len cap, .int .u32 en, .int .i64 sec] 25)) X → X.cell? ⟨w.heap.size, 0, none⟩ = some (.slice a len cap) ∧ X.cell? ⟨w.heap.size, 1, none⟩ = some (.int .u32 en) ∧ Below w.heap.size w X) := fun X hX => ⟨(hX.cell (p := ⟨w.heap.size, 0, none⟩) (by simp)).trans (by simp), (hX.cell (p := ⟨w.heap.size, 1, none⟩) (by simp)).trans (by simp), (al _).trans (hX.mono (al _).size)⟩
  have hwr : IntKind.i64.wrap ((len : Int) + 2) = (len : Int) + 2 := by rw [IntWalk.i64_left, IntWalk.wrap64_in]; omega
  have gl : len ≤ 262144 := by simp [goodS] at hg; exact hg.1
  have gw : isW en = true := by simp [goodS] at hg; exact hg.2
  clear hr hW hg
  go_enter Tryz.func10, Tryz.ntmps10
  go_upto_region 6 with (first
    | (go_at_call 22; refine (new_some 8 _ (by omega) (by omega)).mono ?_; rintro e w1 ⟨db, D, rfl, hR, hn, hm, hS, hF, hfr, hb1⟩; have HD : Hid (Rep w1 db D ∧ D.n = 8 ∧ D.m = 0 ∧ D.fresh db w.heap.size ∧ Below (w.alloc (.cells #[.slice a len cap, .int .u32 en, .int .i64 sec] 25)).heap.size (w.alloc (.cells #[.slice a len cap, .int .u32 en, .int .i64 sec] 25)) w1) := ⟨hR, hn, hm, fun x hx => Nat.le_trans (al _).size (hfr x hx), hb1⟩; have HSz : Hid (D.S = (fun _ _ => 0)) := hS; clear hR hn hm hS hF hfr hb1)
    | (go_at_call 28; refine (rnew_some 8 _ (by omega) (by omega)).mono ?_; rintro e w2 ⟨rd, R, rfl, _, _, _, _, _, hb2⟩; have HE : Hid (Rep w2 db D ∧ Below (w.alloc (.cells #[.slice a len cap, .int .u32 en, .int .i64 sec] 25)).heap.size (w.alloc (.cells #[.slice a len cap, .int .u32 en, .int .i64 sec] 25)) w2) := ⟨HD.out.1.below hb2, HD.out.2.2.2.2.trans (hb2.mono HD.out.2.2.2.2.size)⟩; clear hb2))
  obtain ⟨w3, w4, HT0⟩ := lent_is cap HR.out hlen (HC.out w2.drew (HE.out.2.trans ((drB w2).mono HE.out.2.size))).2.2
  have hmk : (makeU (.int .i64 0) (.int .i64 ((len : Int) + 2))).run Tryz.prog w2.drew = .ok (.slice (some ⟨w2.heap.size, 0, none⟩) 0 (len + 2)) w3 := HT0.mak
  have hap : (appU #[22, 22] 22 #[.slice (some ⟨w2.heap.size, 0, none⟩) 0 (len + 2), .slice a len cap]).run Tryz.prog w3 = .ok (.slice (some ⟨w2.heap.size, 0, none⟩) len (len + 2)) w4 := HT0.ap
  have HT : Hid (Lent w a len cap f w2.drew w3 w4) := HT0
  have B3 : Below (w.alloc (.cells #[.slice a len cap, .int .u32 en, .int .i64 sec] 25)).heap.size (w.alloc (.cells #[.slice a len cap, .int .u32 en, .int .i64 sec] 25)) w3 := (HE.out.2.trans ((drB w2).mono HE.out.2.size)).trans (HT0.b3.mono (Nat.le_trans HE.out.2.size (drB w2).size))
  have B4 : Below (w.alloc (.cells #[.slice a len cap, .int .u32 en, .int .i64 sec] 25)).heap.size (w.alloc (.cells #[.slice a len cap, .int .u32 en, .int .i64 sec] 25)) w4 := (HE.out.2.trans ((drB w2).mono HE.out.2.size)).trans (HT0.b4.mono (Nat.le_trans HE.out.2.size (drB w2).size))
  have s0 := (HC.out w2.drew (HE.out.2.trans ((drB w2).mono HE.out.2.size))).1
  have s1 := (HC.out w3 B3).1
  have s2 := (HC.out w4 B4).1
  have t2 := (HC.out w4 B4).2.1
  have HB4 : Hid (Below (w.alloc (.cells #[.slice a len cap, .int .u32 en, .int .i64 sec] 25)).heap.size (w.alloc (.cells #[.slice a len cap, .int .u32 en, .int .i64 sec] 25)) w4) := B4
  clear HT0 B3 B4
  go_wp2_with fail
  go_region_held3 (fun X => X.cell? ⟨w.heap.size, 0, none⟩ = some (.slice a len cap)) (first | exact s0 | exact s1 | exact s2) (fail)
  go_wp2_with (first
    | (go_at_call 23; refine (mnew_ok _ len _ db f D en _ (HW.out.below (HC.out w4 HB4.out).2.2 HW.out.big) (HE.out.1.below ((drB w2).trans (HT.out.b4.mono (drB w2).size))) (fun x hx => Nat.lt_of_lt_of_le HW.out.big (HD.out.2.2.2.1 x hx)) gl (HT.out.row.rdL (by omega) HR.out) e0 e1 gw).mono ?_; rintro e w5 ⟨p, b, P, rfl, hM, hdb, hPD, hall, hb5⟩; have HM : Hid (MOwn w p b P (Ms.new f len D en) w5) := ⟨hM, (HC.out w4 HB4.out).2.2.trans (hb5.mono (HC.out w4 HB4.out).2.2.size), fun x hx => (hall x hx).elim (HD.out.2.2.2.1 x) fun e => Nat.le_trans (HC.out w4 HB4.out).2.2.size e⟩; have HG : Hid (URow w5 w2.heap.size (len + 2) (lentF f len 0) ∧ ¬ MM p b P w2.heap.size) := ⟨HT.out.row.same (hb5.block _ HT.out.row.lt), fun e => (hall _ e).elim (fun e => absurd (HE.out.1.lt _ e) (by omega)) fun e => absurd HT.out.row.lt (by have : w2.drew.heap.size = w2.heap.size := rfl; omega)⟩; have HB5 : Hid (Below (w.alloc (.cells #[.slice a len cap, .int .u32 en, .int .i64 sec] 25)).heap.size (w.alloc (.cells #[.slice a len cap, .int .u32 en, .int .i64 sec] 25)) w5) := HB4.out.trans (hb5.mono HB4.out.size); have u0 := (HC.out w5 HB5.out).1; have u1 := (HC.out w5 HB5.out).2.1; clear hM hdb hPD hall hb5)
    | (go_at_call 29; refine (rmnew_weak a len cap rd f en _ (HR.out.over HM.out.below) e0 e1).mono ?_; rintro e w6 ⟨v6, k6, rfl, hb6⟩; have HM6 : Hid (MOwn w p b P (Ms.new f len D en) w6 ∧ URow w6 w2.heap.size (len + 2) (lentF f len 0)) := ⟨HM.out.next hb6, HG.out.1.same (hb6.block _ HG.out.1.lt)⟩; clear hb6))
  go_loopw [16] (fun i X => ∃ k : Nat, k ≤ len ∧ i = .int .i64 k ∧ MOwn w p b P (Ms.new f len D en) X ∧ URow X w2.heap.size (len + 2) (lentF f len k)) (fun i _ => len - (intOf i).toNat)
  case atStart => exact ⟨0, Nat.zero_le _, rfl, HM6.out.1, HM6.out.2⟩
  case round =>
    obtain ⟨k, hk, rfl, hX, hU⟩ := hrel
    have HX : Hid (MOwn w p b P (Ms.new f len D en) wr ∧ URow wr w2.heap.size (len + 2) (lentF f len k)) := ⟨hX, hU⟩
    clear hX
    by_cases hlt : k < len
    · have cg := (hU.at (k := k) (by omega)).1
      have fg := (hU.at (k := k) (by omega)).2
      have j0 : (0 : Int) ≤ (k : Int) := by omega
      have j1 : (k : Int) < (len : Int) := by omega
      clear hU
      go_wp2_with fail
      go_roundw
      case rel => exact ⟨k + 1, by omega, by go_num, HX.out.1.set HG.out.2 (Nat.lt_of_lt_of_le HW.out.big (Nat.le_trans (HC.out w2 HE.out.2).2.2.size (Nat.le_refl _))) k _ (HC.out w2 HE.out.2).2.2.size, by have := HX.out.2.set (k := k) (by omega) 2004318071; rwa [lent_next] at this⟩
      case measure => simp [intOf]; omega
    · have j1 : ¬ (k : Int) < (len : Int) := by omega
      clear hU
      go_wp2_with fail
      refine ret_tmp4 rfl rfl ?_
      exact MadeOk.of ⟨p, b, P, D, v6, k6, rfl, HX.out.1, HD.out.2.1, HD.out.2.2.1, HSz.out⟩
set_option maxHeartbeats 800000 in
set_option maxRecDepth 20000 in
theorem made_okC (a : Option Addr) (len cap N : Nat) (f : Nat → Int) (en : Int) (w : World) (hW : Cpu.Ways w) (hr : RdW w a len f) (hlen : len ≤ 35184372087808) (e0 : 0 ≤ en) (e1 : en ≤ 4294967295) (hN : 8 ≤ N ∧ N ≤ 1024) (hs : ¬ (N : Int) < 8) (hs2 : ¬ 64 < (N : Int)) (hg : goodS len en = true) : Calls Tryz.prog 10 #[.agg #[.slice a len cap, .int .u32 en, .int .i64 (N : Int)]] w fun e w' => MadeOk w f len en N e w' := by
  have HR : Hid (RdW w a len f) := hr
  have HW : Hid (Cpu.Ways w) := hW
  have HC : Hid (∀ X, Below (w.alloc (.cells #[.slice a len cap, .int .u32 en, .int .i64 (N : Int)] 25)).heap.size (w.alloc (.cells #[.slice a len cap, .int .u32 en, .int .i64 (N : Int)] 25)) X → X.cell? ⟨w.heap.size, 0, none⟩ = some (.slice a len cap) ∧ X.cell? ⟨w.heap.size, 1, none⟩ = some (.int .u32 en) ∧ Below w.heap.size w X) := fun X hX => ⟨(hX.cell (p := ⟨w.heap.size, 0, none⟩) (by simp)).trans (by simp), (hX.cell (p := ⟨w.heap.size, 1, none⟩) (by simp)).trans (by simp), (al _).trans (hX.mono (al _).size)⟩
  have hwr : IntKind.i64.wrap ((len : Int) + 2) = (len : Int) + 2 := by rw [IntWalk.i64_left, IntWalk.wrap64_in]; omega
  have gl : len ≤ 262144 := by simp [goodS] at hg; exact hg.1
  have gw : isW en = true := by simp [goodS] at hg; exact hg.2
  clear hr hW hg
  go_enter Tryz.func10, Tryz.ntmps10
  go_upto_region 6 with (first
    | (go_at_call 22; refine (new_some N _ hN.1 hN.2).mono ?_; rintro e w1 ⟨db, D, rfl, hR, hn, hm, hS, hF, hfr, hb1⟩; have HD : Hid (Rep w1 db D ∧ D.n = N ∧ D.m = 0 ∧ D.fresh db w.heap.size ∧ Below (w.alloc (.cells #[.slice a len cap, .int .u32 en, .int .i64 (N : Int)] 25)).heap.size (w.alloc (.cells #[.slice a len cap, .int .u32 en, .int .i64 (N : Int)] 25)) w1) := ⟨hR, hn, hm, fun x hx => Nat.le_trans (al _).size (hfr x hx), hb1⟩; have HSz : Hid (D.S = (fun _ _ => 0)) := hS; clear hR hn hm hS hF hfr hb1)
    | (go_at_call 28; refine (rnew_some N _ hN.1 hN.2).mono ?_; rintro e w2 ⟨rd, R, rfl, _, _, _, _, _, hb2⟩; have HE : Hid (Rep w2 db D ∧ Below (w.alloc (.cells #[.slice a len cap, .int .u32 en, .int .i64 (N : Int)] 25)).heap.size (w.alloc (.cells #[.slice a len cap, .int .u32 en, .int .i64 (N : Int)] 25)) w2) := ⟨HD.out.1.below hb2, HD.out.2.2.2.2.trans (hb2.mono HD.out.2.2.2.2.size)⟩; clear hb2))
  obtain ⟨w3, w4, HT0⟩ := lent_is cap HR.out hlen (HC.out w2.drew (HE.out.2.trans ((drB w2).mono HE.out.2.size))).2.2
  have hmk : (makeU (.int .i64 0) (.int .i64 ((len : Int) + 2))).run Tryz.prog w2.drew = .ok (.slice (some ⟨w2.heap.size, 0, none⟩) 0 (len + 2)) w3 := HT0.mak
  have hap : (appU #[22, 22] 22 #[.slice (some ⟨w2.heap.size, 0, none⟩) 0 (len + 2), .slice a len cap]).run Tryz.prog w3 = .ok (.slice (some ⟨w2.heap.size, 0, none⟩) len (len + 2)) w4 := HT0.ap
  have HT : Hid (Lent w a len cap f w2.drew w3 w4) := HT0
  have B3 : Below (w.alloc (.cells #[.slice a len cap, .int .u32 en, .int .i64 (N : Int)] 25)).heap.size (w.alloc (.cells #[.slice a len cap, .int .u32 en, .int .i64 (N : Int)] 25)) w3 := (HE.out.2.trans ((drB w2).mono HE.out.2.size)).trans (HT0.b3.mono (Nat.le_trans HE.out.2.size (drB w2).size))
  have B4 : Below (w.alloc (.cells #[.slice a len cap, .int .u32 en, .int .i64 (N : Int)] 25)).heap.size (w.alloc (.cells #[.slice a len cap, .int .u32 en, .int .i64 (N : Int)] 25)) w4 := (HE.out.2.trans ((drB w2).mono HE.out.2.size)).trans (HT0.b4.mono (Nat.le_trans HE.out.2.size (drB w2).size))
  have s0 := (HC.out w2.drew (HE.out.2.trans ((drB w2).mono HE.out.2.size))).1
  have s1 := (HC.out w3 B3).1
  have s2 := (HC.out w4 B4).1
  have t2 := (HC.out w4 B4).2.1
  have HB4 : Hid (Below (w.alloc (.cells #[.slice a len cap, .int .u32 en, .int .i64 (N : Int)] 25)).heap.size (w.alloc (.cells #[.slice a len cap, .int .u32 en, .int .i64 (N : Int)] 25)) w4) := B4
  clear HT0 B3 B4
  go_wp2_with fail
  go_region_held3 (fun X => X.cell? ⟨w.heap.size, 0, none⟩ = some (.slice a len cap)) (first | exact s0 | exact s1 | exact s2) (fail)
  go_wp2_with (first
    | (go_at_call 23; refine (mnew_ok _ len _ db f D en _ (HW.out.below (HC.out w4 HB4.out).2.2 HW.out.big) (HE.out.1.below ((drB w2).trans (HT.out.b4.mono (drB w2).size))) (fun x hx => Nat.lt_of_lt_of_le HW.out.big (HD.out.2.2.2.1 x hx)) gl (HT.out.row.rdL (by omega) HR.out) e0 e1 gw).mono ?_; rintro e w5 ⟨p, b, P, rfl, hM, hdb, hPD, hall, hb5⟩; have HM : Hid (MOwn w p b P (Ms.new f len D en) w5) := ⟨hM, (HC.out w4 HB4.out).2.2.trans (hb5.mono (HC.out w4 HB4.out).2.2.size), fun x hx => (hall x hx).elim (HD.out.2.2.2.1 x) fun e => Nat.le_trans (HC.out w4 HB4.out).2.2.size e⟩; have HG : Hid (URow w5 w2.heap.size (len + 2) (lentF f len 0) ∧ ¬ MM p b P w2.heap.size) := ⟨HT.out.row.same (hb5.block _ HT.out.row.lt), fun e => (hall _ e).elim (fun e => absurd (HE.out.1.lt _ e) (by omega)) fun e => absurd HT.out.row.lt (by have : w2.drew.heap.size = w2.heap.size := rfl; omega)⟩; have HB5 : Hid (Below (w.alloc (.cells #[.slice a len cap, .int .u32 en, .int .i64 (N : Int)] 25)).heap.size (w.alloc (.cells #[.slice a len cap, .int .u32 en, .int .i64 (N : Int)] 25)) w5) := HB4.out.trans (hb5.mono HB4.out.size); have u0 := (HC.out w5 HB5.out).1; have u1 := (HC.out w5 HB5.out).2.1; clear hM hdb hPD hall hb5)
    | (go_at_call 29; refine (rmnew_weak a len cap rd f en _ (HR.out.over HM.out.below) e0 e1).mono ?_; rintro e w6 ⟨v6, k6, rfl, hb6⟩; have HM6 : Hid (MOwn w p b P (Ms.new f len D en) w6 ∧ URow w6 w2.heap.size (len + 2) (lentF f len 0)) := ⟨HM.out.next hb6, HG.out.1.same (hb6.block _ HG.out.1.lt)⟩; clear hb6))
  go_loopw [16] (fun i X => ∃ k : Nat, k ≤ len ∧ i = .int .i64 k ∧ MOwn w p b P (Ms.new f len D en) X ∧ URow X w2.heap.size (len + 2) (lentF f len k)) (fun i _ => len - (intOf i).toNat)
  case atStart => exact ⟨0, Nat.zero_le _, rfl, HM6.out.1, HM6.out.2⟩
  case round =>
    obtain ⟨k, hk, rfl, hX, hU⟩ := hrel
    have HX : Hid (MOwn w p b P (Ms.new f len D en) wr ∧ URow wr w2.heap.size (len + 2) (lentF f len k)) := ⟨hX, hU⟩
    clear hX
    by_cases hlt : k < len
    · have cg := (hU.at (k := k) (by omega)).1
      have fg := (hU.at (k := k) (by omega)).2
      have j0 : (0 : Int) ≤ (k : Int) := by omega
      have j1 : (k : Int) < (len : Int) := by omega
      clear hU
      go_wp2_with fail
      go_roundw
      case rel => exact ⟨k + 1, by omega, by go_num, HX.out.1.set HG.out.2 (Nat.lt_of_lt_of_le HW.out.big (Nat.le_trans (HC.out w2 HE.out.2).2.2.size (Nat.le_refl _))) k _ (HC.out w2 HE.out.2).2.2.size, by have := HX.out.2.set (k := k) (by omega) 2004318071; rwa [lent_next] at this⟩
      case measure => simp [intOf]; omega
    · have j1 : ¬ (k : Int) < (len : Int) := by omega
      clear hU
      go_wp2_with fail
      refine ret_tmp4 rfl rfl ?_
      exact MadeOk.of ⟨p, b, P, D, v6, k6, rfl, HX.out.1, HD.out.2.1, HD.out.2.2.1, HSz.out⟩
set_option maxHeartbeats 800000 in
set_option maxRecDepth 20000 in
theorem made_manyA (a : Option Addr) (len cap : Nat) (f : Nat → Int) (en sec : Int) (w : World) (hW : Cpu.Ways w) (hr : RdW w a len f) (hlen : len ≤ 35184372087808) (e0 : 0 ≤ en) (e1 : en ≤ 4294967295) (hs : sec < 8) (hg : 262144 < len) : Calls Tryz.prog 10 #[.agg #[.slice a len cap, .int .u32 en, .int .i64 sec]] w fun e w' => MadeNo w e w' := by
  have HR : Hid (RdW w a len f) := hr
  have HW : Hid (Cpu.Ways w) := hW
  have HC : Hid (∀ X, Below (w.alloc (.cells #[.slice a len cap, .int .u32 en, .int .i64 sec] 25)).heap.size (w.alloc (.cells #[.slice a len cap, .int .u32 en, .int .i64 sec] 25)) X → X.cell? ⟨w.heap.size, 0, none⟩ = some (.slice a len cap) ∧ X.cell? ⟨w.heap.size, 1, none⟩ = some (.int .u32 en) ∧ Below w.heap.size w X) := fun X hX => ⟨(hX.cell (p := ⟨w.heap.size, 0, none⟩) (by simp)).trans (by simp), (hX.cell (p := ⟨w.heap.size, 1, none⟩) (by simp)).trans (by simp), (al _).trans (hX.mono (al _).size)⟩
  have hwr : IntKind.i64.wrap ((len : Int) + 2) = (len : Int) + 2 := by rw [IntWalk.i64_left, IntWalk.wrap64_in]; omega
  clear hr hW
  go_enter Tryz.func10, Tryz.ntmps10
  go_upto_region 6 with (first
    | (go_at_call 22; refine (new_some 8 _ (by omega) (by omega)).mono ?_; rintro e w1 ⟨db, D, rfl, hR, hn, hm, hS, hF, hfr, hb1⟩; have HD : Hid (Rep w1 db D ∧ D.n = 8 ∧ D.m = 0 ∧ D.fresh db w.heap.size ∧ Below (w.alloc (.cells #[.slice a len cap, .int .u32 en, .int .i64 sec] 25)).heap.size (w.alloc (.cells #[.slice a len cap, .int .u32 en, .int .i64 sec] 25)) w1) := ⟨hR, hn, hm, fun x hx => Nat.le_trans (al _).size (hfr x hx), hb1⟩; clear hR hn hm hS hF hfr hb1)
    | (go_at_call 28; refine (rnew_some 8 _ (by omega) (by omega)).mono ?_; rintro e w2 ⟨rd, R, rfl, _, _, _, _, _, hb2⟩; have HE : Hid (Rep w2 db D ∧ Below (w.alloc (.cells #[.slice a len cap, .int .u32 en, .int .i64 sec] 25)).heap.size (w.alloc (.cells #[.slice a len cap, .int .u32 en, .int .i64 sec] 25)) w2) := ⟨HD.out.1.below hb2, HD.out.2.2.2.2.trans (hb2.mono HD.out.2.2.2.2.size)⟩; clear hb2))
  obtain ⟨w3, w4, HT0⟩ := lent_is cap HR.out hlen (HC.out w2.drew (HE.out.2.trans ((drB w2).mono HE.out.2.size))).2.2
  have hmk : (makeU (.int .i64 0) (.int .i64 ((len : Int) + 2))).run Tryz.prog w2.drew = .ok (.slice (some ⟨w2.heap.size, 0, none⟩) 0 (len + 2)) w3 := HT0.mak
  have hap : (appU #[22, 22] 22 #[.slice (some ⟨w2.heap.size, 0, none⟩) 0 (len + 2), .slice a len cap]).run Tryz.prog w3 = .ok (.slice (some ⟨w2.heap.size, 0, none⟩) len (len + 2)) w4 := HT0.ap
  have HT : Hid (Lent w a len cap f w2.drew w3 w4) := HT0
  have B3 : Below (w.alloc (.cells #[.slice a len cap, .int .u32 en, .int .i64 sec] 25)).heap.size (w.alloc (.cells #[.slice a len cap, .int .u32 en, .int .i64 sec] 25)) w3 := (HE.out.2.trans ((drB w2).mono HE.out.2.size)).trans (HT0.b3.mono (Nat.le_trans HE.out.2.size (drB w2).size))
  have B4 : Below (w.alloc (.cells #[.slice a len cap, .int .u32 en, .int .i64 sec] 25)).heap.size (w.alloc (.cells #[.slice a len cap, .int .u32 en, .int .i64 sec] 25)) w4 := (HE.out.2.trans ((drB w2).mono HE.out.2.size)).trans (HT0.b4.mono (Nat.le_trans HE.out.2.size (drB w2).size))
  have s0 := (HC.out w2.drew (HE.out.2.trans ((drB w2).mono HE.out.2.size))).1
  have s1 := (HC.out w3 B3).1
  have s2 := (HC.out w4 B4).1
  have t2 := (HC.out w4 B4).2.1
  have HB4 : Hid (Below (w.alloc (.cells #[.slice a len cap, .int .u32 en, .int .i64 sec] 25)).heap.size (w.alloc (.cells #[.slice a len cap, .int .u32 en, .int .i64 sec] 25)) w4) := B4
  clear HT0 B3 B4
  go_wp2_with fail
  go_region_held3 (fun X => X.cell? ⟨w.heap.size, 0, none⟩ = some (.slice a len cap)) (first | exact s0 | exact s1 | exact s2) (fail)
  go_wp2_with (first
    | (go_at_call 23; refine (mnew_many _ len _ db en _ hg).mono ?_; rintro e w5 ⟨rfl, hb5⟩; have HM : Hid (Below w.heap.size w w5) := (HC.out w4 HB4.out).2.2.trans (hb5.mono (HC.out w4 HB4.out).2.2.size); have HG : Hid (URow w5 w2.heap.size (len + 2) (lentF f len 0)) := HT.out.row.same (hb5.block _ HT.out.row.lt); have HB5 : Hid (Below (w.alloc (.cells #[.slice a len cap, .int .u32 en, .int .i64 sec] 25)).heap.size (w.alloc (.cells #[.slice a len cap, .int .u32 en, .int .i64 sec] 25)) w5) := HB4.out.trans (hb5.mono HB4.out.size); have u0 := (HC.out w5 HB5.out).1; have u1 := (HC.out w5 HB5.out).2.1; clear hb5)
    | (go_at_call 29; refine (rmnew_weak a len cap rd f en _ (HR.out.over HM.out) e0 e1).mono ?_; rintro e w6 ⟨v6, k6, rfl, hb6⟩; have HM6 : Hid (Below w.heap.size w w6 ∧ URow w6 w2.heap.size (len + 2) (lentF f len 0)) := ⟨HM.out.trans (hb6.mono HM.out.size), HG.out.same (hb6.block _ HG.out.lt)⟩; clear hb6))
  go_loopw [16] (fun i X => ∃ k : Nat, k ≤ len ∧ i = .int .i64 k ∧ Below w.heap.size w X ∧ URow X w2.heap.size (len + 2) (lentF f len k)) (fun i _ => len - (intOf i).toNat)
  case atStart => exact ⟨0, Nat.zero_le _, rfl, HM6.out.1, HM6.out.2⟩
  case round =>
    obtain ⟨k, hk, rfl, hX, hU⟩ := hrel
    have HX : Hid (Below w.heap.size w wr ∧ URow wr w2.heap.size (len + 2) (lentF f len k)) := ⟨hX, hU⟩
    clear hX
    by_cases hlt : k < len
    · have cg := (hU.at (k := k) (by omega)).1
      have fg := (hU.at (k := k) (by omega)).2
      have j0 : (0 : Int) ≤ (k : Int) := by omega
      have j1 : (k : Int) < (len : Int) := by omega
      clear hU
      go_wp2_with fail
      go_roundw
      case rel => exact ⟨k + 1, by omega, by go_num, HX.out.1.setCell (HC.out w2 HE.out.2).2.2.size _, by have := HX.out.2.set (k := k) (by omega) 2004318071; rwa [lent_next] at this⟩
      case measure => simp [intOf]; omega
    · have j1 : ¬ (k : Int) < (len : Int) := by omega
      clear hU
      go_wp2_with fail
      refine ret_tmp4 rfl rfl ?_
      exact MadeNo.of ⟨v6, k6, rfl, HX.out.1⟩
set_option maxHeartbeats 800000 in
set_option maxRecDepth 20000 in
theorem made_manyB (a : Option Addr) (len cap : Nat) (f : Nat → Int) (en sec : Int) (w : World) (hW : Cpu.Ways w) (hr : RdW w a len f) (hlen : len ≤ 35184372087808) (e0 : 0 ≤ en) (e1 : en ≤ 4294967295) (hs : ¬ sec < 8) (hs2 : 64 < sec) (hg : 262144 < len) : Calls Tryz.prog 10 #[.agg #[.slice a len cap, .int .u32 en, .int .i64 sec]] w fun e w' => MadeNo w e w' := by
  have HR : Hid (RdW w a len f) := hr
  have HW : Hid (Cpu.Ways w) := hW
  have HC : Hid (∀ X, Below (w.alloc (.cells #[.slice a len cap, .int .u32 en, .int .i64 sec] 25)).heap.size (w.alloc (.cells #[.slice a len cap, .int .u32 en, .int .i64 sec] 25)) X → X.cell? ⟨w.heap.size, 0, none⟩ = some (.slice a len cap) ∧ X.cell? ⟨w.heap.size, 1, none⟩ = some (.int .u32 en) ∧ Below w.heap.size w X) := fun X hX => ⟨(hX.cell (p := ⟨w.heap.size, 0, none⟩) (by simp)).trans (by simp), (hX.cell (p := ⟨w.heap.size, 1, none⟩) (by simp)).trans (by simp), (al _).trans (hX.mono (al _).size)⟩
  have hwr : IntKind.i64.wrap ((len : Int) + 2) = (len : Int) + 2 := by rw [IntWalk.i64_left, IntWalk.wrap64_in]; omega
  clear hr hW
  go_enter Tryz.func10, Tryz.ntmps10
  go_upto_region 6 with (first
    | (go_at_call 22; refine (new_some 8 _ (by omega) (by omega)).mono ?_; rintro e w1 ⟨db, D, rfl, hR, hn, hm, hS, hF, hfr, hb1⟩; have HD : Hid (Rep w1 db D ∧ D.n = 8 ∧ D.m = 0 ∧ D.fresh db w.heap.size ∧ Below (w.alloc (.cells #[.slice a len cap, .int .u32 en, .int .i64 sec] 25)).heap.size (w.alloc (.cells #[.slice a len cap, .int .u32 en, .int .i64 sec] 25)) w1) := ⟨hR, hn, hm, fun x hx => Nat.le_trans (al _).size (hfr x hx), hb1⟩; clear hR hn hm hS hF hfr hb1)
    | (go_at_call 28; refine (rnew_some 8 _ (by omega) (by omega)).mono ?_; rintro e w2 ⟨rd, R, rfl, _, _, _, _, _, hb2⟩; have HE : Hid (Rep w2 db D ∧ Below (w.alloc (.cells #[.slice a len cap, .int .u32 en, .int .i64 sec] 25)).heap.size (w.alloc (.cells #[.slice a len cap, .int .u32 en, .int .i64 sec] 25)) w2) := ⟨HD.out.1.below hb2, HD.out.2.2.2.2.trans (hb2.mono HD.out.2.2.2.2.size)⟩; clear hb2))
  obtain ⟨w3, w4, HT0⟩ := lent_is cap HR.out hlen (HC.out w2.drew (HE.out.2.trans ((drB w2).mono HE.out.2.size))).2.2
  have hmk : (makeU (.int .i64 0) (.int .i64 ((len : Int) + 2))).run Tryz.prog w2.drew = .ok (.slice (some ⟨w2.heap.size, 0, none⟩) 0 (len + 2)) w3 := HT0.mak
  have hap : (appU #[22, 22] 22 #[.slice (some ⟨w2.heap.size, 0, none⟩) 0 (len + 2), .slice a len cap]).run Tryz.prog w3 = .ok (.slice (some ⟨w2.heap.size, 0, none⟩) len (len + 2)) w4 := HT0.ap
  have HT : Hid (Lent w a len cap f w2.drew w3 w4) := HT0
  have B3 : Below (w.alloc (.cells #[.slice a len cap, .int .u32 en, .int .i64 sec] 25)).heap.size (w.alloc (.cells #[.slice a len cap, .int .u32 en, .int .i64 sec] 25)) w3 := (HE.out.2.trans ((drB w2).mono HE.out.2.size)).trans (HT0.b3.mono (Nat.le_trans HE.out.2.size (drB w2).size))
  have B4 : Below (w.alloc (.cells #[.slice a len cap, .int .u32 en, .int .i64 sec] 25)).heap.size (w.alloc (.cells #[.slice a len cap, .int .u32 en, .int .i64 sec] 25)) w4 := (HE.out.2.trans ((drB w2).mono HE.out.2.size)).trans (HT0.b4.mono (Nat.le_trans HE.out.2.size (drB w2).size))
  have s0 := (HC.out w2.drew (HE.out.2.trans ((drB w2).mono HE.out.2.size))).1
  have s1 := (HC.out w3 B3).1
  have s2 := (HC.out w4 B4).1
  have t2 := (HC.out w4 B4).2.1
  have HB4 : Hid (Below (w.alloc (.cells #[.slice a len cap, .int .u32 en, .int .i64 sec] 25)).heap.size (w.alloc (.cells #[.slice a len cap, .int .u32 en, .int .i64 sec] 25)) w4) := B4
  clear HT0 B3 B4
  go_wp2_with fail
  go_region_held3 (fun X => X.cell? ⟨w.heap.size, 0, none⟩ = some (.slice a len cap)) (first | exact s0 | exact s1 | exact s2) (fail)
  go_wp2_with (first
    | (go_at_call 23; refine (mnew_many _ len _ db en _ hg).mono ?_; rintro e w5 ⟨rfl, hb5⟩; have HM : Hid (Below w.heap.size w w5) := (HC.out w4 HB4.out).2.2.trans (hb5.mono (HC.out w4 HB4.out).2.2.size); have HG : Hid (URow w5 w2.heap.size (len + 2) (lentF f len 0)) := HT.out.row.same (hb5.block _ HT.out.row.lt); have HB5 : Hid (Below (w.alloc (.cells #[.slice a len cap, .int .u32 en, .int .i64 sec] 25)).heap.size (w.alloc (.cells #[.slice a len cap, .int .u32 en, .int .i64 sec] 25)) w5) := HB4.out.trans (hb5.mono HB4.out.size); have u0 := (HC.out w5 HB5.out).1; have u1 := (HC.out w5 HB5.out).2.1; clear hb5)
    | (go_at_call 29; refine (rmnew_weak a len cap rd f en _ (HR.out.over HM.out) e0 e1).mono ?_; rintro e w6 ⟨v6, k6, rfl, hb6⟩; have HM6 : Hid (Below w.heap.size w w6 ∧ URow w6 w2.heap.size (len + 2) (lentF f len 0)) := ⟨HM.out.trans (hb6.mono HM.out.size), HG.out.same (hb6.block _ HG.out.lt)⟩; clear hb6))
  go_loopw [16] (fun i X => ∃ k : Nat, k ≤ len ∧ i = .int .i64 k ∧ Below w.heap.size w X ∧ URow X w2.heap.size (len + 2) (lentF f len k)) (fun i _ => len - (intOf i).toNat)
  case atStart => exact ⟨0, Nat.zero_le _, rfl, HM6.out.1, HM6.out.2⟩
  case round =>
    obtain ⟨k, hk, rfl, hX, hU⟩ := hrel
    have HX : Hid (Below w.heap.size w wr ∧ URow wr w2.heap.size (len + 2) (lentF f len k)) := ⟨hX, hU⟩
    clear hX
    by_cases hlt : k < len
    · have cg := (hU.at (k := k) (by omega)).1
      have fg := (hU.at (k := k) (by omega)).2
      have j0 : (0 : Int) ≤ (k : Int) := by omega
      have j1 : (k : Int) < (len : Int) := by omega
      clear hU
      go_wp2_with fail
      go_roundw
      case rel => exact ⟨k + 1, by omega, by go_num, HX.out.1.setCell (HC.out w2 HE.out.2).2.2.size _, by have := HX.out.2.set (k := k) (by omega) 2004318071; rwa [lent_next] at this⟩
      case measure => simp [intOf]; omega
    · have j1 : ¬ (k : Int) < (len : Int) := by omega
      clear hU
      go_wp2_with fail
      refine ret_tmp4 rfl rfl ?_
      exact MadeNo.of ⟨v6, k6, rfl, HX.out.1⟩
set_option maxHeartbeats 800000 in
set_option maxRecDepth 20000 in
theorem made_manyC (a : Option Addr) (len cap N : Nat) (f : Nat → Int) (en : Int) (w : World) (hW : Cpu.Ways w) (hr : RdW w a len f) (hlen : len ≤ 35184372087808) (e0 : 0 ≤ en) (e1 : en ≤ 4294967295) (hN : 8 ≤ N ∧ N ≤ 1024) (hs : ¬ (N : Int) < 8) (hs2 : ¬ 64 < (N : Int)) (hg : 262144 < len) : Calls Tryz.prog 10 #[.agg #[.slice a len cap, .int .u32 en, .int .i64 (N : Int)]] w fun e w' => MadeNo w e w' := by
  have HR : Hid (RdW w a len f) := hr
  have HW : Hid (Cpu.Ways w) := hW
  have HC : Hid (∀ X, Below (w.alloc (.cells #[.slice a len cap, .int .u32 en, .int .i64 (N : Int)] 25)).heap.size (w.alloc (.cells #[.slice a len cap, .int .u32 en, .int .i64 (N : Int)] 25)) X → X.cell? ⟨w.heap.size, 0, none⟩ = some (.slice a len cap) ∧ X.cell? ⟨w.heap.size, 1, none⟩ = some (.int .u32 en) ∧ Below w.heap.size w X) := fun X hX => ⟨(hX.cell (p := ⟨w.heap.size, 0, none⟩) (by simp)).trans (by simp), (hX.cell (p := ⟨w.heap.size, 1, none⟩) (by simp)).trans (by simp), (al _).trans (hX.mono (al _).size)⟩
  have hwr : IntKind.i64.wrap ((len : Int) + 2) = (len : Int) + 2 := by rw [IntWalk.i64_left, IntWalk.wrap64_in]; omega
  clear hr hW
  go_enter Tryz.func10, Tryz.ntmps10
  go_upto_region 6 with (first
    | (go_at_call 22; refine (new_some N _ hN.1 hN.2).mono ?_; rintro e w1 ⟨db, D, rfl, hR, hn, hm, hS, hF, hfr, hb1⟩; have HD : Hid (Rep w1 db D ∧ D.n = N ∧ D.m = 0 ∧ D.fresh db w.heap.size ∧ Below (w.alloc (.cells #[.slice a len cap, .int .u32 en, .int .i64 (N : Int)] 25)).heap.size (w.alloc (.cells #[.slice a len cap, .int .u32 en, .int .i64 (N : Int)] 25)) w1) := ⟨hR, hn, hm, fun x hx => Nat.le_trans (al _).size (hfr x hx), hb1⟩; clear hR hn hm hS hF hfr hb1)
    | (go_at_call 28; refine (rnew_some N _ hN.1 hN.2).mono ?_; rintro e w2 ⟨rd, R, rfl, _, _, _, _, _, hb2⟩; have HE : Hid (Rep w2 db D ∧ Below (w.alloc (.cells #[.slice a len cap, .int .u32 en, .int .i64 (N : Int)] 25)).heap.size (w.alloc (.cells #[.slice a len cap, .int .u32 en, .int .i64 (N : Int)] 25)) w2) := ⟨HD.out.1.below hb2, HD.out.2.2.2.2.trans (hb2.mono HD.out.2.2.2.2.size)⟩; clear hb2))
  obtain ⟨w3, w4, HT0⟩ := lent_is cap HR.out hlen (HC.out w2.drew (HE.out.2.trans ((drB w2).mono HE.out.2.size))).2.2
  have hmk : (makeU (.int .i64 0) (.int .i64 ((len : Int) + 2))).run Tryz.prog w2.drew = .ok (.slice (some ⟨w2.heap.size, 0, none⟩) 0 (len + 2)) w3 := HT0.mak
  have hap : (appU #[22, 22] 22 #[.slice (some ⟨w2.heap.size, 0, none⟩) 0 (len + 2), .slice a len cap]).run Tryz.prog w3 = .ok (.slice (some ⟨w2.heap.size, 0, none⟩) len (len + 2)) w4 := HT0.ap
  have HT : Hid (Lent w a len cap f w2.drew w3 w4) := HT0
  have B3 : Below (w.alloc (.cells #[.slice a len cap, .int .u32 en, .int .i64 (N : Int)] 25)).heap.size (w.alloc (.cells #[.slice a len cap, .int .u32 en, .int .i64 (N : Int)] 25)) w3 := (HE.out.2.trans ((drB w2).mono HE.out.2.size)).trans (HT0.b3.mono (Nat.le_trans HE.out.2.size (drB w2).size))
  have B4 : Below (w.alloc (.cells #[.slice a len cap, .int .u32 en, .int .i64 (N : Int)] 25)).heap.size (w.alloc (.cells #[.slice a len cap, .int .u32 en, .int .i64 (N : Int)] 25)) w4 := (HE.out.2.trans ((drB w2).mono HE.out.2.size)).trans (HT0.b4.mono (Nat.le_trans HE.out.2.size (drB w2).size))
  have s0 := (HC.out w2.drew (HE.out.2.trans ((drB w2).mono HE.out.2.size))).1
  have s1 := (HC.out w3 B3).1
  have s2 := (HC.out w4 B4).1
  have t2 := (HC.out w4 B4).2.1
  have HB4 : Hid (Below (w.alloc (.cells #[.slice a len cap, .int .u32 en, .int .i64 (N : Int)] 25)).heap.size (w.alloc (.cells #[.slice a len cap, .int .u32 en, .int .i64 (N : Int)] 25)) w4) := B4
  clear HT0 B3 B4
  go_wp2_with fail
  go_region_held3 (fun X => X.cell? ⟨w.heap.size, 0, none⟩ = some (.slice a len cap)) (first | exact s0 | exact s1 | exact s2) (fail)
  go_wp2_with (first
    | (go_at_call 23; refine (mnew_many _ len _ db en _ hg).mono ?_; rintro e w5 ⟨rfl, hb5⟩; have HM : Hid (Below w.heap.size w w5) := (HC.out w4 HB4.out).2.2.trans (hb5.mono (HC.out w4 HB4.out).2.2.size); have HG : Hid (URow w5 w2.heap.size (len + 2) (lentF f len 0)) := HT.out.row.same (hb5.block _ HT.out.row.lt); have HB5 : Hid (Below (w.alloc (.cells #[.slice a len cap, .int .u32 en, .int .i64 (N : Int)] 25)).heap.size (w.alloc (.cells #[.slice a len cap, .int .u32 en, .int .i64 (N : Int)] 25)) w5) := HB4.out.trans (hb5.mono HB4.out.size); have u0 := (HC.out w5 HB5.out).1; have u1 := (HC.out w5 HB5.out).2.1; clear hb5)
    | (go_at_call 29; refine (rmnew_weak a len cap rd f en _ (HR.out.over HM.out) e0 e1).mono ?_; rintro e w6 ⟨v6, k6, rfl, hb6⟩; have HM6 : Hid (Below w.heap.size w w6 ∧ URow w6 w2.heap.size (len + 2) (lentF f len 0)) := ⟨HM.out.trans (hb6.mono HM.out.size), HG.out.same (hb6.block _ HG.out.lt)⟩; clear hb6))
  go_loopw [16] (fun i X => ∃ k : Nat, k ≤ len ∧ i = .int .i64 k ∧ Below w.heap.size w X ∧ URow X w2.heap.size (len + 2) (lentF f len k)) (fun i _ => len - (intOf i).toNat)
  case atStart => exact ⟨0, Nat.zero_le _, rfl, HM6.out.1, HM6.out.2⟩
  case round =>
    obtain ⟨k, hk, rfl, hX, hU⟩ := hrel
    have HX : Hid (Below w.heap.size w wr ∧ URow wr w2.heap.size (len + 2) (lentF f len k)) := ⟨hX, hU⟩
    clear hX
    by_cases hlt : k < len
    · have cg := (hU.at (k := k) (by omega)).1
      have fg := (hU.at (k := k) (by omega)).2
      have j0 : (0 : Int) ≤ (k : Int) := by omega
      have j1 : (k : Int) < (len : Int) := by omega
      clear hU
      go_wp2_with fail
      go_roundw
      case rel => exact ⟨k + 1, by omega, by go_num, HX.out.1.setCell (HC.out w2 HE.out.2).2.2.size _, by have := HX.out.2.set (k := k) (by omega) 2004318071; rwa [lent_next] at this⟩
      case measure => simp [intOf]; omega
    · have j1 : ¬ (k : Int) < (len : Int) := by omega
      clear hU
      go_wp2_with fail
      refine ret_tmp4 rfl rfl ?_
      exact MadeNo.of ⟨v6, k6, rfl, HX.out.1⟩
set_option maxHeartbeats 800000 in
set_option maxRecDepth 20000 in
theorem made_entryA (a : Option Addr) (len cap : Nat) (f : Nat → Int) (en sec : Int) (w : World) (hW : Cpu.Ways w) (hr : RdW w a len f) (hlen : len ≤ 35184372087808) (e0 : 0 ≤ en) (e1 : en ≤ 4294967295) (hs : sec < 8) (gl : len ≤ 262144) (gw : isW en = false) : Calls Tryz.prog 10 #[.agg #[.slice a len cap, .int .u32 en, .int .i64 sec]] w fun e w' => MadeNo w e w' := by
  have HR : Hid (RdW w a len f) := hr
  have HW : Hid (Cpu.Ways w) := hW
  have HC : Hid (∀ X, Below (w.alloc (.cells #[.slice a len cap, .int .u32 en, .int .i64 sec] 25)).heap.size (w.alloc (.cells #[.slice a len cap, .int .u32 en, .int .i64 sec] 25)) X → X.cell? ⟨w.heap.size, 0, none⟩ = some (.slice a len cap) ∧ X.cell? ⟨w.heap.size, 1, none⟩ = some (.int .u32 en) ∧ Below w.heap.size w X) := fun X hX => ⟨(hX.cell (p := ⟨w.heap.size, 0, none⟩) (by simp)).trans (by simp), (hX.cell (p := ⟨w.heap.size, 1, none⟩) (by simp)).trans (by simp), (al _).trans (hX.mono (al _).size)⟩
  have hwr : IntKind.i64.wrap ((len : Int) + 2) = (len : Int) + 2 := by rw [IntWalk.i64_left, IntWalk.wrap64_in]; omega
  clear hr hW
  go_enter Tryz.func10, Tryz.ntmps10
  go_upto_region 6 with (first
    | (go_at_call 22; refine (new_some 8 _ (by omega) (by omega)).mono ?_; rintro e w1 ⟨db, D, rfl, hR, hn, hm, hS, hF, hfr, hb1⟩; have HD : Hid (Rep w1 db D ∧ D.n = 8 ∧ D.m = 0 ∧ D.fresh db w.heap.size ∧ Below (w.alloc (.cells #[.slice a len cap, .int .u32 en, .int .i64 sec] 25)).heap.size (w.alloc (.cells #[.slice a len cap, .int .u32 en, .int .i64 sec] 25)) w1) := ⟨hR, hn, hm, fun x hx => Nat.le_trans (al _).size (hfr x hx), hb1⟩; clear hR hn hm hS hF hfr hb1)
    | (go_at_call 28; refine (rnew_some 8 _ (by omega) (by omega)).mono ?_; rintro e w2 ⟨rd, R, rfl, _, _, _, _, _, hb2⟩; have HE : Hid (Rep w2 db D ∧ Below (w.alloc (.cells #[.slice a len cap, .int .u32 en, .int .i64 sec] 25)).heap.size (w.alloc (.cells #[.slice a len cap, .int .u32 en, .int .i64 sec] 25)) w2) := ⟨HD.out.1.below hb2, HD.out.2.2.2.2.trans (hb2.mono HD.out.2.2.2.2.size)⟩; clear hb2))
  obtain ⟨w3, w4, HT0⟩ := lent_is cap HR.out hlen (HC.out w2.drew (HE.out.2.trans ((drB w2).mono HE.out.2.size))).2.2
  have hmk : (makeU (.int .i64 0) (.int .i64 ((len : Int) + 2))).run Tryz.prog w2.drew = .ok (.slice (some ⟨w2.heap.size, 0, none⟩) 0 (len + 2)) w3 := HT0.mak
  have hap : (appU #[22, 22] 22 #[.slice (some ⟨w2.heap.size, 0, none⟩) 0 (len + 2), .slice a len cap]).run Tryz.prog w3 = .ok (.slice (some ⟨w2.heap.size, 0, none⟩) len (len + 2)) w4 := HT0.ap
  have HT : Hid (Lent w a len cap f w2.drew w3 w4) := HT0
  have B3 : Below (w.alloc (.cells #[.slice a len cap, .int .u32 en, .int .i64 sec] 25)).heap.size (w.alloc (.cells #[.slice a len cap, .int .u32 en, .int .i64 sec] 25)) w3 := (HE.out.2.trans ((drB w2).mono HE.out.2.size)).trans (HT0.b3.mono (Nat.le_trans HE.out.2.size (drB w2).size))
  have B4 : Below (w.alloc (.cells #[.slice a len cap, .int .u32 en, .int .i64 sec] 25)).heap.size (w.alloc (.cells #[.slice a len cap, .int .u32 en, .int .i64 sec] 25)) w4 := (HE.out.2.trans ((drB w2).mono HE.out.2.size)).trans (HT0.b4.mono (Nat.le_trans HE.out.2.size (drB w2).size))
  have s0 := (HC.out w2.drew (HE.out.2.trans ((drB w2).mono HE.out.2.size))).1
  have s1 := (HC.out w3 B3).1
  have s2 := (HC.out w4 B4).1
  have t2 := (HC.out w4 B4).2.1
  have HB4 : Hid (Below (w.alloc (.cells #[.slice a len cap, .int .u32 en, .int .i64 sec] 25)).heap.size (w.alloc (.cells #[.slice a len cap, .int .u32 en, .int .i64 sec] 25)) w4) := B4
  clear HT0 B3 B4
  go_wp2_with fail
  go_region_held3 (fun X => X.cell? ⟨w.heap.size, 0, none⟩ = some (.slice a len cap)) (first | exact s0 | exact s1 | exact s2) (fail)
  go_wp2_with (first
    | (go_at_call 23; refine (mnew_entry _ len _ db f D en _ (HE.out.1.below ((drB w2).trans (HT.out.b4.mono (drB w2).size))) gl (HT.out.row.rdL (by omega) HR.out) e0 e1 gw).mono ?_; rintro e w5 ⟨rfl, hb5⟩; have HM : Hid (Below w.heap.size w w5) := (HC.out w4 HB4.out).2.2.trans (hb5.mono (HC.out w4 HB4.out).2.2.size); have HG : Hid (URow w5 w2.heap.size (len + 2) (lentF f len 0)) := HT.out.row.same (hb5.block _ HT.out.row.lt); have HB5 : Hid (Below (w.alloc (.cells #[.slice a len cap, .int .u32 en, .int .i64 sec] 25)).heap.size (w.alloc (.cells #[.slice a len cap, .int .u32 en, .int .i64 sec] 25)) w5) := HB4.out.trans (hb5.mono HB4.out.size); have u0 := (HC.out w5 HB5.out).1; have u1 := (HC.out w5 HB5.out).2.1; clear hb5)
    | (go_at_call 29; refine (rmnew_weak a len cap rd f en _ (HR.out.over HM.out) e0 e1).mono ?_; rintro e w6 ⟨v6, k6, rfl, hb6⟩; have HM6 : Hid (Below w.heap.size w w6 ∧ URow w6 w2.heap.size (len + 2) (lentF f len 0)) := ⟨HM.out.trans (hb6.mono HM.out.size), HG.out.same (hb6.block _ HG.out.lt)⟩; clear hb6))
  go_loopw [16] (fun i X => ∃ k : Nat, k ≤ len ∧ i = .int .i64 k ∧ Below w.heap.size w X ∧ URow X w2.heap.size (len + 2) (lentF f len k)) (fun i _ => len - (intOf i).toNat)
  case atStart => exact ⟨0, Nat.zero_le _, rfl, HM6.out.1, HM6.out.2⟩
  case round =>
    obtain ⟨k, hk, rfl, hX, hU⟩ := hrel
    have HX : Hid (Below w.heap.size w wr ∧ URow wr w2.heap.size (len + 2) (lentF f len k)) := ⟨hX, hU⟩
    clear hX
    by_cases hlt : k < len
    · have cg := (hU.at (k := k) (by omega)).1
      have fg := (hU.at (k := k) (by omega)).2
      have j0 : (0 : Int) ≤ (k : Int) := by omega
      have j1 : (k : Int) < (len : Int) := by omega
      clear hU
      go_wp2_with fail
      go_roundw
      case rel => exact ⟨k + 1, by omega, by go_num, HX.out.1.setCell (HC.out w2 HE.out.2).2.2.size _, by have := HX.out.2.set (k := k) (by omega) 2004318071; rwa [lent_next] at this⟩
      case measure => simp [intOf]; omega
    · have j1 : ¬ (k : Int) < (len : Int) := by omega
      clear hU
      go_wp2_with fail
      refine ret_tmp4 rfl rfl ?_
      exact MadeNo.of ⟨v6, k6, rfl, HX.out.1⟩
set_option maxHeartbeats 800000 in
set_option maxRecDepth 20000 in
theorem made_entryB (a : Option Addr) (len cap : Nat) (f : Nat → Int) (en sec : Int) (w : World) (hW : Cpu.Ways w) (hr : RdW w a len f) (hlen : len ≤ 35184372087808) (e0 : 0 ≤ en) (e1 : en ≤ 4294967295) (hs : ¬ sec < 8) (hs2 : 64 < sec) (gl : len ≤ 262144) (gw : isW en = false) : Calls Tryz.prog 10 #[.agg #[.slice a len cap, .int .u32 en, .int .i64 sec]] w fun e w' => MadeNo w e w' := by
  have HR : Hid (RdW w a len f) := hr
  have HW : Hid (Cpu.Ways w) := hW
  have HC : Hid (∀ X, Below (w.alloc (.cells #[.slice a len cap, .int .u32 en, .int .i64 sec] 25)).heap.size (w.alloc (.cells #[.slice a len cap, .int .u32 en, .int .i64 sec] 25)) X → X.cell? ⟨w.heap.size, 0, none⟩ = some (.slice a len cap) ∧ X.cell? ⟨w.heap.size, 1, none⟩ = some (.int .u32 en) ∧ Below w.heap.size w X) := fun X hX => ⟨(hX.cell (p := ⟨w.heap.size, 0, none⟩) (by simp)).trans (by simp), (hX.cell (p := ⟨w.heap.size, 1, none⟩) (by simp)).trans (by simp), (al _).trans (hX.mono (al _).size)⟩
  have hwr : IntKind.i64.wrap ((len : Int) + 2) = (len : Int) + 2 := by rw [IntWalk.i64_left, IntWalk.wrap64_in]; omega
  clear hr hW
  go_enter Tryz.func10, Tryz.ntmps10
  go_upto_region 6 with (first
    | (go_at_call 22; refine (new_some 8 _ (by omega) (by omega)).mono ?_; rintro e w1 ⟨db, D, rfl, hR, hn, hm, hS, hF, hfr, hb1⟩; have HD : Hid (Rep w1 db D ∧ D.n = 8 ∧ D.m = 0 ∧ D.fresh db w.heap.size ∧ Below (w.alloc (.cells #[.slice a len cap, .int .u32 en, .int .i64 sec] 25)).heap.size (w.alloc (.cells #[.slice a len cap, .int .u32 en, .int .i64 sec] 25)) w1) := ⟨hR, hn, hm, fun x hx => Nat.le_trans (al _).size (hfr x hx), hb1⟩; clear hR hn hm hS hF hfr hb1)
    | (go_at_call 28; refine (rnew_some 8 _ (by omega) (by omega)).mono ?_; rintro e w2 ⟨rd, R, rfl, _, _, _, _, _, hb2⟩; have HE : Hid (Rep w2 db D ∧ Below (w.alloc (.cells #[.slice a len cap, .int .u32 en, .int .i64 sec] 25)).heap.size (w.alloc (.cells #[.slice a len cap, .int .u32 en, .int .i64 sec] 25)) w2) := ⟨HD.out.1.below hb2, HD.out.2.2.2.2.trans (hb2.mono HD.out.2.2.2.2.size)⟩; clear hb2))
  obtain ⟨w3, w4, HT0⟩ := lent_is cap HR.out hlen (HC.out w2.drew (HE.out.2.trans ((drB w2).mono HE.out.2.size))).2.2
  have hmk : (makeU (.int .i64 0) (.int .i64 ((len : Int) + 2))).run Tryz.prog w2.drew = .ok (.slice (some ⟨w2.heap.size, 0, none⟩) 0 (len + 2)) w3 := HT0.mak
  have hap : (appU #[22, 22] 22 #[.slice (some ⟨w2.heap.size, 0, none⟩) 0 (len + 2), .slice a len cap]).run Tryz.prog w3 = .ok (.slice (some ⟨w2.heap.size, 0, none⟩) len (len + 2)) w4 := HT0.ap
  have HT : Hid (Lent w a len cap f w2.drew w3 w4) := HT0
  have B3 : Below (w.alloc (.cells #[.slice a len cap, .int .u32 en, .int .i64 sec] 25)).heap.size (w.alloc (.cells #[.slice a len cap, .int .u32 en, .int .i64 sec] 25)) w3 := (HE.out.2.trans ((drB w2).mono HE.out.2.size)).trans (HT0.b3.mono (Nat.le_trans HE.out.2.size (drB w2).size))
  have B4 : Below (w.alloc (.cells #[.slice a len cap, .int .u32 en, .int .i64 sec] 25)).heap.size (w.alloc (.cells #[.slice a len cap, .int .u32 en, .int .i64 sec] 25)) w4 := (HE.out.2.trans ((drB w2).mono HE.out.2.size)).trans (HT0.b4.mono (Nat.le_trans HE.out.2.size (drB w2).size))
  have s0 := (HC.out w2.drew (HE.out.2.trans ((drB w2).mono HE.out.2.size))).1
  have s1 := (HC.out w3 B3).1
  have s2 := (HC.out w4 B4).1
  have t2 := (HC.out w4 B4).2.1
  have HB4 : Hid (Below (w.alloc (.cells #[.slice a len cap, .int .u32 en, .int .i64 sec] 25)).heap.size (w.alloc (.cells #[.slice a len cap, .int .u32 en, .int .i64 sec] 25)) w4) := B4
  clear HT0 B3 B4
  go_wp2_with fail
  go_region_held3 (fun X => X.cell? ⟨w.heap.size, 0, none⟩ = some (.slice a len cap)) (first | exact s0 | exact s1 | exact s2) (fail)
  go_wp2_with (first
    | (go_at_call 23; refine (mnew_entry _ len _ db f D en _ (HE.out.1.below ((drB w2).trans (HT.out.b4.mono (drB w2).size))) gl (HT.out.row.rdL (by omega) HR.out) e0 e1 gw).mono ?_; rintro e w5 ⟨rfl, hb5⟩; have HM : Hid (Below w.heap.size w w5) := (HC.out w4 HB4.out).2.2.trans (hb5.mono (HC.out w4 HB4.out).2.2.size); have HG : Hid (URow w5 w2.heap.size (len + 2) (lentF f len 0)) := HT.out.row.same (hb5.block _ HT.out.row.lt); have HB5 : Hid (Below (w.alloc (.cells #[.slice a len cap, .int .u32 en, .int .i64 sec] 25)).heap.size (w.alloc (.cells #[.slice a len cap, .int .u32 en, .int .i64 sec] 25)) w5) := HB4.out.trans (hb5.mono HB4.out.size); have u0 := (HC.out w5 HB5.out).1; have u1 := (HC.out w5 HB5.out).2.1; clear hb5)
    | (go_at_call 29; refine (rmnew_weak a len cap rd f en _ (HR.out.over HM.out) e0 e1).mono ?_; rintro e w6 ⟨v6, k6, rfl, hb6⟩; have HM6 : Hid (Below w.heap.size w w6 ∧ URow w6 w2.heap.size (len + 2) (lentF f len 0)) := ⟨HM.out.trans (hb6.mono HM.out.size), HG.out.same (hb6.block _ HG.out.lt)⟩; clear hb6))
  go_loopw [16] (fun i X => ∃ k : Nat, k ≤ len ∧ i = .int .i64 k ∧ Below w.heap.size w X ∧ URow X w2.heap.size (len + 2) (lentF f len k)) (fun i _ => len - (intOf i).toNat)
  case atStart => exact ⟨0, Nat.zero_le _, rfl, HM6.out.1, HM6.out.2⟩
  case round =>
    obtain ⟨k, hk, rfl, hX, hU⟩ := hrel
    have HX : Hid (Below w.heap.size w wr ∧ URow wr w2.heap.size (len + 2) (lentF f len k)) := ⟨hX, hU⟩
    clear hX
    by_cases hlt : k < len
    · have cg := (hU.at (k := k) (by omega)).1
      have fg := (hU.at (k := k) (by omega)).2
      have j0 : (0 : Int) ≤ (k : Int) := by omega
      have j1 : (k : Int) < (len : Int) := by omega
      clear hU
      go_wp2_with fail
      go_roundw
      case rel => exact ⟨k + 1, by omega, by go_num, HX.out.1.setCell (HC.out w2 HE.out.2).2.2.size _, by have := HX.out.2.set (k := k) (by omega) 2004318071; rwa [lent_next] at this⟩
      case measure => simp [intOf]; omega
    · have j1 : ¬ (k : Int) < (len : Int) := by omega
      clear hU
      go_wp2_with fail
      refine ret_tmp4 rfl rfl ?_
      exact MadeNo.of ⟨v6, k6, rfl, HX.out.1⟩
set_option maxHeartbeats 800000 in
set_option maxRecDepth 20000 in
theorem made_entryC (a : Option Addr) (len cap N : Nat) (f : Nat → Int) (en : Int) (w : World) (hW : Cpu.Ways w) (hr : RdW w a len f) (hlen : len ≤ 35184372087808) (e0 : 0 ≤ en) (e1 : en ≤ 4294967295) (hN : 8 ≤ N ∧ N ≤ 1024) (hs : ¬ (N : Int) < 8) (hs2 : ¬ 64 < (N : Int)) (gl : len ≤ 262144) (gw : isW en = false) : Calls Tryz.prog 10 #[.agg #[.slice a len cap, .int .u32 en, .int .i64 (N : Int)]] w fun e w' => MadeNo w e w' := by
  have HR : Hid (RdW w a len f) := hr
  have HW : Hid (Cpu.Ways w) := hW
  have HC : Hid (∀ X, Below (w.alloc (.cells #[.slice a len cap, .int .u32 en, .int .i64 (N : Int)] 25)).heap.size (w.alloc (.cells #[.slice a len cap, .int .u32 en, .int .i64 (N : Int)] 25)) X → X.cell? ⟨w.heap.size, 0, none⟩ = some (.slice a len cap) ∧ X.cell? ⟨w.heap.size, 1, none⟩ = some (.int .u32 en) ∧ Below w.heap.size w X) := fun X hX => ⟨(hX.cell (p := ⟨w.heap.size, 0, none⟩) (by simp)).trans (by simp), (hX.cell (p := ⟨w.heap.size, 1, none⟩) (by simp)).trans (by simp), (al _).trans (hX.mono (al _).size)⟩
  have hwr : IntKind.i64.wrap ((len : Int) + 2) = (len : Int) + 2 := by rw [IntWalk.i64_left, IntWalk.wrap64_in]; omega
  clear hr hW
  go_enter Tryz.func10, Tryz.ntmps10
  go_upto_region 6 with (first
    | (go_at_call 22; refine (new_some N _ hN.1 hN.2).mono ?_; rintro e w1 ⟨db, D, rfl, hR, hn, hm, hS, hF, hfr, hb1⟩; have HD : Hid (Rep w1 db D ∧ D.n = N ∧ D.m = 0 ∧ D.fresh db w.heap.size ∧ Below (w.alloc (.cells #[.slice a len cap, .int .u32 en, .int .i64 (N : Int)] 25)).heap.size (w.alloc (.cells #[.slice a len cap, .int .u32 en, .int .i64 (N : Int)] 25)) w1) := ⟨hR, hn, hm, fun x hx => Nat.le_trans (al _).size (hfr x hx), hb1⟩; clear hR hn hm hS hF hfr hb1)
    | (go_at_call 28; refine (rnew_some N _ hN.1 hN.2).mono ?_; rintro e w2 ⟨rd, R, rfl, _, _, _, _, _, hb2⟩; have HE : Hid (Rep w2 db D ∧ Below (w.alloc (.cells #[.slice a len cap, .int .u32 en, .int .i64 (N : Int)] 25)).heap.size (w.alloc (.cells #[.slice a len cap, .int .u32 en, .int .i64 (N : Int)] 25)) w2) := ⟨HD.out.1.below hb2, HD.out.2.2.2.2.trans (hb2.mono HD.out.2.2.2.2.size)⟩; clear hb2))
  obtain ⟨w3, w4, HT0⟩ := lent_is cap HR.out hlen (HC.out w2.drew (HE.out.2.trans ((drB w2).mono HE.out.2.size))).2.2
  have hmk : (makeU (.int .i64 0) (.int .i64 ((len : Int) + 2))).run Tryz.prog w2.drew = .ok (.slice (some ⟨w2.heap.size, 0, none⟩) 0 (len + 2)) w3 := HT0.mak
  have hap : (appU #[22, 22] 22 #[.slice (some ⟨w2.heap.size, 0, none⟩) 0 (len + 2), .slice a len cap]).run Tryz.prog w3 = .ok (.slice (some ⟨w2.heap.size, 0, none⟩) len (len + 2)) w4 := HT0.ap
  have HT : Hid (Lent w a len cap f w2.drew w3 w4) := HT0
  have B3 : Below (w.alloc (.cells #[.slice a len cap, .int .u32 en, .int .i64 (N : Int)] 25)).heap.size (w.alloc (.cells #[.slice a len cap, .int .u32 en, .int .i64 (N : Int)] 25)) w3 := (HE.out.2.trans ((drB w2).mono HE.out.2.size)).trans (HT0.b3.mono (Nat.le_trans HE.out.2.size (drB w2).size))
  have B4 : Below (w.alloc (.cells #[.slice a len cap, .int .u32 en, .int .i64 (N : Int)] 25)).heap.size (w.alloc (.cells #[.slice a len cap, .int .u32 en, .int .i64 (N : Int)] 25)) w4 := (HE.out.2.trans ((drB w2).mono HE.out.2.size)).trans (HT0.b4.mono (Nat.le_trans HE.out.2.size (drB w2).size))
  have s0 := (HC.out w2.drew (HE.out.2.trans ((drB w2).mono HE.out.2.size))).1
  have s1 := (HC.out w3 B3).1
  have s2 := (HC.out w4 B4).1
  have t2 := (HC.out w4 B4).2.1
  have HB4 : Hid (Below (w.alloc (.cells #[.slice a len cap, .int .u32 en, .int .i64 (N : Int)] 25)).heap.size (w.alloc (.cells #[.slice a len cap, .int .u32 en, .int .i64 (N : Int)] 25)) w4) := B4
  clear HT0 B3 B4
  go_wp2_with fail
  go_region_held3 (fun X => X.cell? ⟨w.heap.size, 0, none⟩ = some (.slice a len cap)) (first | exact s0 | exact s1 | exact s2) (fail)
  go_wp2_with (first
    | (go_at_call 23; refine (mnew_entry _ len _ db f D en _ (HE.out.1.below ((drB w2).trans (HT.out.b4.mono (drB w2).size))) gl (HT.out.row.rdL (by omega) HR.out) e0 e1 gw).mono ?_; rintro e w5 ⟨rfl, hb5⟩; have HM : Hid (Below w.heap.size w w5) := (HC.out w4 HB4.out).2.2.trans (hb5.mono (HC.out w4 HB4.out).2.2.size); have HG : Hid (URow w5 w2.heap.size (len + 2) (lentF f len 0)) := HT.out.row.same (hb5.block _ HT.out.row.lt); have HB5 : Hid (Below (w.alloc (.cells #[.slice a len cap, .int .u32 en, .int .i64 (N : Int)] 25)).heap.size (w.alloc (.cells #[.slice a len cap, .int .u32 en, .int .i64 (N : Int)] 25)) w5) := HB4.out.trans (hb5.mono HB4.out.size); have u0 := (HC.out w5 HB5.out).1; have u1 := (HC.out w5 HB5.out).2.1; clear hb5)
    | (go_at_call 29; refine (rmnew_weak a len cap rd f en _ (HR.out.over HM.out) e0 e1).mono ?_; rintro e w6 ⟨v6, k6, rfl, hb6⟩; have HM6 : Hid (Below w.heap.size w w6 ∧ URow w6 w2.heap.size (len + 2) (lentF f len 0)) := ⟨HM.out.trans (hb6.mono HM.out.size), HG.out.same (hb6.block _ HG.out.lt)⟩; clear hb6))
  go_loopw [16] (fun i X => ∃ k : Nat, k ≤ len ∧ i = .int .i64 k ∧ Below w.heap.size w X ∧ URow X w2.heap.size (len + 2) (lentF f len k)) (fun i _ => len - (intOf i).toNat)
  case atStart => exact ⟨0, Nat.zero_le _, rfl, HM6.out.1, HM6.out.2⟩
  case round =>
    obtain ⟨k, hk, rfl, hX, hU⟩ := hrel
    have HX : Hid (Below w.heap.size w wr ∧ URow wr w2.heap.size (len + 2) (lentF f len k)) := ⟨hX, hU⟩
    clear hX
    by_cases hlt : k < len
    · have cg := (hU.at (k := k) (by omega)).1
      have fg := (hU.at (k := k) (by omega)).2
      have j0 : (0 : Int) ≤ (k : Int) := by omega
      have j1 : (k : Int) < (len : Int) := by omega
      clear hU
      go_wp2_with fail
      go_roundw
      case rel => exact ⟨k + 1, by omega, by go_num, HX.out.1.setCell (HC.out w2 HE.out.2).2.2.size _, by have := HX.out.2.set (k := k) (by omega) 2004318071; rwa [lent_next] at this⟩
      case measure => simp [intOf]; omega
    · have j1 : ¬ (k : Int) < (len : Int) := by omega
      clear hU
      go_wp2_with fail
      refine ret_tmp4 rfl rfl ?_
      exact MadeNo.of ⟨v6, k6, rfl, HX.out.1⟩
theorem made_good (a : Option Addr) (len cap : Nat) (f : Nat → Int) (en sec : Int) (w : World) (hW : Cpu.Ways w) (hr : RdW w a len f) (hlen : len ≤ 35184372087808) (e0 : 0 ≤ en) (e1 : en ≤ 4294967295) (hg : goodS len en = true) : Calls Tryz.prog 10 #[.agg #[.slice a len cap, .int .u32 en, .int .i64 sec]] w fun e w' => MadeOk w f len en (secN sec) e w' := by
  by_cases h1 : sec < 8
  · rw [show secN sec = 8 from if_pos (.inl h1)]
    exact made_okA a len cap f en sec w hW hr hlen e0 e1 h1 hg
  · by_cases h2 : 64 < sec
    · rw [show secN sec = 8 from if_pos (.inr h2)]
      exact made_okB a len cap f en sec w hW hr hlen e0 e1 h1 h2 hg
    · obtain ⟨N, rfl⟩ := Int.eq_ofNat_of_zero_le (show 0 ≤ sec by omega)
      rw [show secN (N : Int) = N from if_neg (by omega)]
      exact made_okC a len cap N f en w hW hr hlen e0 e1 (by omega) h1 h2 hg
theorem made_bad (a : Option Addr) (len cap : Nat) (f : Nat → Int) (en sec : Int) (w : World) (hW : Cpu.Ways w) (hr : RdW w a len f) (hlen : len ≤ 35184372087808) (e0 : 0 ≤ en) (e1 : en ≤ 4294967295) (hg : goodS len en = false) : Calls Tryz.prog 10 #[.agg #[.slice a len cap, .int .u32 en, .int .i64 sec]] w fun e w' => MadeNo w e w' := by
  by_cases hl : len ≤ 262144
  · have gw : isW en = false := by simpa [goodS, hl] using hg
    by_cases h1 : sec < 8
    · exact made_entryA a len cap f en sec w hW hr hlen e0 e1 h1 hl gw
    · by_cases h2 : 64 < sec
      · exact made_entryB a len cap f en sec w hW hr hlen e0 e1 h1 h2 hl gw
      · obtain ⟨N, rfl⟩ := Int.eq_ofNat_of_zero_le (show 0 ≤ sec by omega)
        exact made_entryC a len cap N f en w hW hr hlen e0 e1 (by omega) h1 h2 hl gw
  · by_cases h1 : sec < 8
    · exact made_manyA a len cap f en sec w hW hr hlen e0 e1 h1 (by omega)
    · by_cases h2 : 64 < sec
      · exact made_manyB a len cap f en sec w hW hr hlen e0 e1 h1 h2 (by omega)
      · obtain ⟨N, rfl⟩ := Int.eq_ofNat_of_zero_le (show 0 ≤ sec by omega)
        exact made_manyC a len cap N f en w hW hr hlen e0 e1 (by omega) h1 h2 (by omega)
end Go.Proofs.YteegkhnikcioiaaGreatDoor
