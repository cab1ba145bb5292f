/-
  Steps that are handed in, as plain data.
  Things to do, opened.
  The law on runs beside the document's machine: its walk.
-/
import Derived.Test.YteegkhnikcioiaaGreatDoorMMadeS
import Derived.Test.YteegkhnikcioiaaGreatDoorMMemS
import Derived.Test.YteegkhnikcioiaaGreatDoorMOpenS
import Derived.Test.YteegkhnikcioiaaGreatDoorMCutsV
import Derived.Test.YteegkhnikcioiaaGreatDoorMStands
namespace Go.Proofs.YteegkhnikcioiaaGreatDoor
open Go.ChangeShapes Go.WideShapes Go.ChangeAt Go.RowKit
open Cpu (Cp In Ac En decOk decI accA rightB)
set_option linter.unusedVariables false

structure Thing where
  k : Int
  n : Int
  s : ByteArray
structure Thing.Ok (o : Thing) : Prop where
  n : i64B o.n
  s : o.s.size ≤ maxLen
/-- A row of things to do. -/
def RdT (w : World) (a : Option Addr) (len : Nat) (g : Nat → Thing) : Prop :=
  len ≤ maxLen ∧ (len = 0 ∨ ∃ b off, a = some ⟨b, off, none⟩ ∧ b < w.heap.size ∧ ∀ k, k < len → (g k).Ok ∧ w.cell? ⟨b, off + k * 3, none⟩ = some (.int .i64 (g k).k) ∧ w.cell? ⟨b, off + k * 3 + 1, none⟩ = some (.int .i64 (g k).n) ∧ w.cell? ⟨b, off + k * 3 + 2, none⟩ = some (.string (g k).s))
theorem RdT.at {w X : World} {a : Option Addr} {len : Nat} {g : Nat → Thing} (h : RdT w a len g) (hb : Below w.heap.size w X) {k : Nat} (hlt : k < len) : ∃ b off, a = some ⟨b, off, none⟩ ∧ (g k).Ok ∧ X.cell? ⟨b, off + k * 3, none⟩ = some (.int .i64 (g k).k) ∧ X.cell? ⟨b, off + k * 3 + 1, none⟩ = some (.int .i64 (g k).n) ∧ X.cell? ⟨b, off + k * 3 + 2, none⟩ = some (.string (g k).s) := by
  rcases h.2 with h0 | ⟨b, off, e, hl, hc⟩
  · omega
  · obtain ⟨ok, c0, c1, c2⟩ := hc k hlt
    have hB : ∀ j, X.cell? ⟨b, j, none⟩ = w.cell? ⟨b, j, none⟩ := fun j => hb.cell (p := ⟨b, j, none⟩) hl
    exact ⟨b, off, e, ok, (hB _).trans c0, (hB _).trans c1, (hB _).trans c2⟩
theorem TDuo.base {w w2 X : World} {p b q r : Nat} {P : Ph} {Q : RPh} {m n : Ms} (h : TDuo w2 X p b P m q r Q n) (hb : Below w.heap.size w w2) (hz : 0 < w.heap.size) : TDuo w X p b P m q r Q n :=
  ⟨⟨h.one.mac, hb.trans (h.one.below.mono hb.size), fun x hx => Nat.le_trans hb.size (h.one.new x hx)⟩, h.two, fun x hx => Nat.le_trans hb.size (h.new x hx), h.ap, hz⟩
theorem Both.below {w X : World} {p b q r : Nat} {st : Int} (h : Both w X p b q r st) : Below w.heap.size w X := by
  obtain ⟨P, m, Q, h, _⟩ := h
  exact h.one.below
end Go.Proofs.YteegkhnikcioiaaGreatDoor

namespace Go.Proofs.YteegkhnikcioiaaGreatDoor
open Go.ChangeShapes Go.WideShapes Go.ChangeAt Go.RowKit
set_option linter.unusedVariables false
theorem Tryz.cellsT : Tryz.prog.cellsOf 35 = 3 := by kernel_rfl
theorem Tryz.cellsTj : Tryz.prog.cellsOf 2 = 1 := by kernel_rfl
theorem Tryz.cellsTs : Tryz.prog.cellsOf 9 = 1 := by kernel_rfl
section
variable {H : Type} {enc : TypeId × Value → H} {W : World} {base : Nat} {spare : Nat → Bool} {held : Bool}
theorem tnum_at {n : Nat} {l : List Value} {k : Nat} {t : TypeId} {q : IntKind} {xs : List (DataW H × List MemPlace)} {i m : Nat} (hu : Tryz.prog.underlying t = some (.int q)) (hcl : Tryz.prog.cellsOf t = 1) (hm : xs.length = m) (hi : i < m) (h : DataW.trod enc Tryz.prog W base spare held n t ((l.drop k).take (Tryz.prog.cellsOf t)) = xs[i]?) :
    ∃ z, l[k]? = some (.int q z) ∧ (Lit.int q z).wf = true := by
  obtain ⟨y, hy⟩ := Cpu.some_of hm hi
  rw [hy, hcl] at h
  obtain ⟨z, e1, _, wf⟩ := DataW.trod_int hu h
  exact ⟨z, Cpu.at_of e1, wf⟩
theorem tstr_at {n : Nat} {l : List Value} {k : Nat} {t : TypeId} {xs : List (DataW H × List MemPlace)} {i m : Nat} (hu : Tryz.prog.underlying t = some .string) (hcl : Tryz.prog.cellsOf t = 1) (hm : xs.length = m) (hi : i < m) (h : DataW.trod enc Tryz.prog W base spare held n t ((l.drop k).take (Tryz.prog.cellsOf t)) = xs[i]?) :
    ∃ s, l[k]? = some (.string s) ∧ s.size ≤ maxLen := by
  obtain ⟨y, hy⟩ := Cpu.some_of hm hi
  rw [hy, hcl] at h
  obtain ⟨s, e1, _, hs⟩ := DataW.trod_string hu h
  exact ⟨s, Cpu.at_of e1, hs⟩
theorem wfJ {z : Int} (h : (Lit.int .i64 z).wf = true) : i64B z := by
  simpa [Lit.wf, IntKind.min, IntKind.max, IntKind.signed, IntKind.bits, i64B] using h
theorem thing_of_list {l : List Value} {fuel : Nat} {x : DataW H × List MemPlace} (hf : DataW.trod enc Tryz.prog W base spare held fuel 35 l = some x) : ∃ o : Thing, o.Ok ∧ l[0]? = some (.int .i64 o.k) ∧ l[1]? = some (.int .i64 o.n) ∧ l[2]? = some (.string o.s) := by
  obtain ⟨xs, n, _, _, hl, hlen, hfld⟩ := DataW.trod_struct Tryz.underlying35 hf
  have hlen3 : xs.length = 3 := hlen
  obtain ⟨a, ea, wa⟩ := tnum_at Tryz.underlying3 Tryz.cellsMj hlen3 (by omega) (hfld 0 _ rfl)
  obtain ⟨b, eb, wb⟩ := tnum_at Tryz.underlying2 Tryz.cellsTj hlen3 (by omega) (hfld 1 _ rfl)
  obtain ⟨s, es, ws⟩ := tstr_at Tryz.underlying9 Tryz.cellsTs hlen3 (by omega) (hfld 2 _ rfl)
  exact ⟨⟨a, b, s⟩, ⟨wfJ wb, ws⟩, ea, eb, es⟩
end
set_option maxRecDepth 100000 in
theorem open_things {H : Type} {enc : TypeId × Value → H} {W : World} {base : Nat} {r : Reach} {b0 : Nat} {v : Value} {d : DataW H} {p : List MemPlace} (hv : Value.okWide Tryz.prog W r b0 26 v) (h : DataW.Trod enc Tryz.prog W base (fun _ => true) true 26 v d p) :
    ∃ a len cap g, v = .slice a len cap ∧ RdT W a len g := by
  obtain ⟨a0, len0, cap0, rfl⟩ := okWide_slice Tryz.underlying26 hv
  obtain ⟨fuel, hf⟩ := h
  rcases Go.Deep.open_slice Tryz.underlying26 hf with ⟨hcs, _⟩ | ⟨a, len, cap, m, n, D, Pl, hcs, _, hl, hm, hmm, _, hel⟩
  · simp [Value.cells] at hcs
    obtain ⟨rfl, rfl, rfl⟩ := hcs
    exact ⟨none, 0, 0, fun _ => ⟨0, 0, ⟨#[]⟩⟩, rfl, by unfold maxLen; omega, .inl rfl⟩
  · simp [Value.cells] at hcs
    obtain ⟨rfl, rfl, rfl⟩ := hcs
    have hmc : m = cap0 := by simpa using hmm
    have hall : ∀ i, ∃ s : Thing, i < len0 → s.Ok ∧ W.cell? ((a.add (i * 3)).add 0) = some (.int .i64 s.k) ∧ W.cell? ((a.add (i * 3)).add 1) = some (.int .i64 s.n) ∧ W.cell? ((a.add (i * 3)).add 2) = some (.string s.s) := by
      intro i
      by_cases hi : i < len0
      · obtain ⟨cs', hc, ht⟩ := hel i (by omega)
        rw [Tryz.cellsT] at hc
        obtain ⟨s, ok, e0, e1, e2⟩ := thing_of_list ht
        have hg := (World.cells?_some hc).2.2
        exact ⟨s, fun _ => ⟨ok, (hg 0 (by omega)).trans e0, (hg 1 (by omega)).trans e1, (hg 2 (by omega)).trans e2⟩⟩
      · exact ⟨⟨0, 0, ⟨#[]⟩⟩, fun h => absurd h hi⟩
    obtain ⟨g, hg⟩ := Classical.axiomOfChoice hall
    refine ⟨some a, len0, cap0, g, rfl, by omega, ?_⟩
    by_cases h0 : len0 = 0
    · exact .inl h0
    · have first := (hg 0 (by omega)).2.1
      obtain ⟨b, off, spot⟩ := a
      have hspot : spot = none := by
        have := World.cell?_spot first
        simpa [Addr.add] using this
      subst hspot
      have hcell : ∀ i, i < len0 → (g i).Ok ∧ W.cell? ⟨b, off + i * 3, none⟩ = some (.int .i64 (g i).k) ∧ W.cell? ⟨b, off + i * 3 + 1, none⟩ = some (.int .i64 (g i).n) ∧ W.cell? ⟨b, off + i * 3 + 2, none⟩ = some (.string (g i).s) := fun i hi => by
        have := hg i hi
        simp only [Go.WideShapes.add_plain, Nat.add_zero] at this
        exact this
      exact .inr ⟨b, off, rfl, World.block_lt_of_cell? W _ (hcell 0 (by omega)).2.1, hcell⟩
end Go.Proofs.YteegkhnikcioiaaGreatDoor

namespace Go.Proofs.YteegkhnikcioiaaGreatDoor
open Go.ChangeShapes Go.WideShapes Go.ChangeAt Go.RowKit
open Cpu (Cp In Ac En decOk decI accA rightB)
attribute [local go_sem ↓] Cpu.loadCpu_seal Cpu.storeCpu_seal Cpu.loadIn_seal Cpu.storeIn_seal Cpu.loadAc_seal Cpu.storeAc_seal Cpu.loadEn_seal Cpu.storeEn_seal
attribute [local go_sem] Cpu.loadCpu_run Cpu.storeCpu_run Cpu.loadIn_run Cpu.storeIn_run Cpu.rowAt_at Cpu.rowAt_past Cpu.rowAt_drew Cpu.rowAt_drewN Cpu.roomCpu_new Cpu.roomIn_new Cpu.roomAt_old Cpu.roomAt_drew Cpu.roomAt_drewN Cpu.putCpu_new Cpu.putIn_new Cpu.Cp.zero_fold Cpu.In.fold Cpu.putRow_past Cpu.rowCpu_put Cpu.rowIn_put Cpu.size_put Cpu.putRow_drew Cpu.putRow_drewN Cpu.alloc_drewN Cpu.setCell_drewN Cpu.Cp.at16 Cpu.Cp.at17 Cpu.Cp.at18 Cpu.Cp.at19 Cpu.Cp.at20 Cpu.Cp.at21 Cpu.Cp.size Cpu.Cp.set16 Cpu.Cp.set17 Cpu.Cp.set18 Cpu.Cp.set19 Cpu.Cp.set20 Cpu.Cp.set21 Cpu.In.at0 Cpu.In.at1 Cpu.In.at2 Cpu.In.at3 Cpu.In.at4 Cpu.In.at5 Cpu.In.at6 Cpu.In.at7 Cpu.In.size Cpu.In.set0 Cpu.In.set1 Cpu.In.set2 Cpu.In.set3 Cpu.In.ne Cpu.Cp.ne Cpu.In.set4 Cpu.In.set5 Cpu.In.set6 Cpu.In.set7 loadMid_run storeMid_run mc_size mc_cpu Cpu.loadAc_run Cpu.storeAc_run Cpu.loadEn_run Cpu.storeEn_run Cpu.putAc_new Cpu.putEn_new Cpu.roomAc_new Cpu.roomEn_new Cpu.rowAc_put Cpu.rowEn_put Cpu.Ac.at0 Cpu.Ac.at1 Cpu.Ac.at2 Cpu.Ac.size Cpu.Ac.ne Cpu.Ac.fold Cpu.En.at0 Cpu.En.at1 Cpu.En.at2 Cpu.En.at3 Cpu.En.size Cpu.En.set0 Cpu.En.set1 Cpu.En.set2 Cpu.En.set3 Cpu.Ac.set0 Cpu.Ac.set1 Cpu.Ac.set2 Cpu.En.ne Cpu.En.fold
set_option linter.unusedVariables false

set_option maxHeartbeats 1000000 in
set_option maxRecDepth 20000 in
theorem runs_no (a : Option Addr) (len cap : Nat) (f : Nat → Int) (en sec : Int) (pa : Option Addr) (pl pc : Nat) (w : World) (hW : Cpu.Ways w) (hr : RdW w a len f) (hlen : len ≤ 35184372087808) (e0 : 0 ≤ en) (e1 : en ≤ 4294967295) (hg : goodS len en = false) : Calls Tryz.prog 3 #[.agg #[.slice a len cap, .int .u32 en, .int .i64 sec], .slice pa pl pc] w fun e w' => e = .returned (.bool true) ∧ Below w.heap.size w w' := by
  have HR : Hid (RdW w a len f) := hr
  have HW : Hid (Cpu.Ways w) := hW
  have HS : Hid (Starts w a len cap en sec (w.alloc (.cells #[.slice a len cap, .int .u32 en, .int .i64 sec] 25))) := Starts.begin _ _ _ _ _ _
  clear hr hW
  go_enter Tryz.func3, Tryz.ntmps3
  go_wp2_with (first
    | (go_at_call 9; refine (mshown_any _ (HW.out.alloc _)).mono ?_; rintro e w1 ⟨rfl, b1⟩; have H1 : Hid (Starts w a len cap en sec w1) := HS.out.next b1; have c0 := H1.out.c0; have c1 := H1.out.c1; have c2 := H1.out.c2; clear b1)
    | (go_at_call 10; refine (mades_bad a len cap f en sec _ (HW.out.below H1.out.below HW.out.big) (HR.out.over H1.out.below) hlen e0 e1 hg).mono ?_; rintro e w2 ⟨rfl, b2⟩; have H2 : Hid (Starts w a len cap en sec w2) := H1.out.next b2; clear b2))
  go_ret
  exact ⟨by first | rfl | simp, H2.out.below⟩
set_option maxHeartbeats 4000000 in
set_option maxRecDepth 20000 in
theorem runs_ok (a : Option Addr) (len cap : Nat) (f : Nat → Int) (en sec : Int) (pa : Option Addr) (pl pc : Nat) (g : Nat → Thing) (w : World) (hW : Cpu.Ways w) (hr : RdW w a len f) (hlen : len ≤ 35184372087808) (e0 : 0 ≤ en) (e1 : en ≤ 4294967295) (hg : goodS len en = true) (hp : RdT w pa pl g) : Calls Tryz.prog 3 #[.agg #[.slice a len cap, .int .u32 en, .int .i64 sec], .slice pa pl pc] w fun e w' => e = .returned (.bool true) ∧ Below w.heap.size w w' := by
  have HR : Hid (RdW w a len f) := hr
  have HP : Hid (RdT w pa pl g) := hp
  have HW : Hid (Cpu.Ways w) := hW
  have hplm : (pl : Int) ≤ 9223372036854775807 := by have := hp.1; unfold maxLen at this; omega
  have HS : Hid (Starts w a len cap en sec (w.alloc (.cells #[.slice a len cap, .int .u32 en, .int .i64 sec] 25))) := Starts.begin _ _ _ _ _ _
  clear hr hW hp
  go_enter Tryz.func3, Tryz.ntmps3
  go_wp2_with (first
    | (go_at_call 9; refine (mshown_any _ (HW.out.alloc _)).mono ?_; rintro e w1 ⟨rfl, b1⟩; have H1 : Hid (Starts w a len cap en sec w1) := HS.out.next b1; have c0 := H1.out.c0; have c1 := H1.out.c1; have c2 := H1.out.c2; clear b1)
    | (go_at_call 10; refine (mades_good a len cap f en sec _ (HW.out.below H1.out.below HW.out.big) (HR.out.over H1.out.below) hlen e0 e1 hg).mono ?_; rintro e w2 ⟨p, b, P, D, q, r, Q, rfl, hM, hD⟩; have H2 : Hid (Both w w2 p b q r 0) := ⟨P, _, Q, hM.base H1.out.below HW.out.big, Int.le_refl 0⟩; clear hM hD))
  go_loopw [10] (fun i X => ∃ k : Nat, k ≤ pl ∧ k ≤ 100 ∧ i = .int .i64 k ∧ Both w X p b q r (3000 * (k : Int))) (fun i _ => pl - (intOf i).toNat)
  case atStart => exact ⟨0, Nat.zero_le _, by omega, rfl, H2.out⟩
  case round =>
    obtain ⟨k, hk, hk1, rfl, hX⟩ := hrel
    obtain ⟨P1, m, Q1, hD, hst⟩ := hX
    have HD : Hid (TDuo w wr p b P1 m q r Q1 m) := hD
    by_cases hlt : k < pl
    · have q0 : (0 : Int) ≤ (k : Int) := by omega
      have q1 : (k : Int) < (pl : Int) := by omega
      by_cases h100 : k < 100
      · have q2 : (k : Int) < 100 := by omega
        obtain ⟨gb, off, rfl, ok, c3, c4, c5⟩ := HP.out.at hD.one.below hlt
        clear hD
        go_wp2_with (first
          | (go_at_call 11; refine (does_any (g k).k (g k).n (g k).s HD.out ok.n ok.s (by omega)).mono ?_; rintro e w3 ⟨rfl, P3, m3, Q3, hD3, hs3⟩; have HD3 : Hid (TDuo w w3 p b P3 m3 q r Q3 m3) := hD3; clear hD3)
          | (go_at_call 12; refine (stands_any HD3.out).mono ?_; rintro e w4 ⟨rfl, hD4⟩; have HD4 : Hid (TDuo w w4 p b P3 m3 q r Q3 m3) := hD4; clear hD4))
        go_roundw
        case rel => exact ⟨k + 1, by omega, by omega, by go_num, P3, m3, Q3, HD4.out, by push_cast; omega⟩
        case measure => simp [intOf]; omega
      · have q2 : ¬ (k : Int) < 100 := by omega
        clear hD
        go_wp2_with (go_at_call 13; refine (memory_any HD.out).mono ?_; rintro e w4 ⟨rfl, hD4⟩; have HD4 : Hid (TDuo w w4 p b P1 m q r Q1 m) := hD4; clear hD4)
        go_ret
        exact ⟨by first | rfl | simp, HD4.out.one.below⟩
    · have q1 : ¬ (k : Int) < (pl : Int) := by omega
      clear hD
      go_wp2_with (go_at_call 13; refine (memory_any HD.out).mono ?_; rintro e w4 ⟨rfl, hD4⟩; have HD4 : Hid (TDuo w w4 p b P1 m q r Q1 m) := hD4; clear hD4)
      go_ret
      exact ⟨by first | rfl | simp, HD4.out.one.below⟩
theorem runs_any (a : Option Addr) (len cap : Nat) (f : Nat → Int) (en sec : Int) (pa : Option Addr) (pl pc : Nat) (g : Nat → Thing) (w : World) (hW : Cpu.Ways w) (hr : RdW w a len f) (hlen : len ≤ 35184372087808) (e0 : 0 ≤ en) (e1 : en ≤ 4294967295) (hp : RdT w pa pl g) : Calls Tryz.prog 3 #[.agg #[.slice a len cap, .int .u32 en, .int .i64 sec], .slice pa pl pc] w fun e w' => e = .returned (.bool true) ∧ Below w.heap.size w w' := by
  cases hg : goodS len en
  · exact runs_no a len cap f en sec pa pl pc w hW hr hlen e0 e1 hg
  · exact runs_ok a len cap f en sec pa pl pc g w hW hr hlen e0 e1 hg hp
end Go.Proofs.YteegkhnikcioiaaGreatDoor
