/-
  One thing, done by the program's machine and by the document's: the same.
  The memories of both machines, word by word.
-/
import Derived.Test.YteegkhnikcioiaaGreatDoorMTDuo
import Derived.Test.YteegkhnikcioiaaGreatDoorMMDuo
import Derived.Deep.RegionWith
namespace Go.Proofs.YteegkhnikcioiaaGreatDoor
open Go.ChangeShapes Go.WideShapes Go.ChangeAt Go.RowKit
open Cpu (Cp In Ac En decOk decI accA rightB)
set_option linter.unusedSimpArgs false
def eqlEn (x y : Value) : Sem Value := binOp .eql 41 x y
theorem eqlEn_seal (x y : Value) : binOp .eql 41 x y = eqlEn x y := rfl
theorem eqlEn_same (a : En) (w : World) : (eqlEn (.agg a.cells) (.agg a.cells)).run Tryz.prog w = .ok (.bool true) w := by
  unfold eqlEn
  simp [go_sem, Tryz.underlying41, En.cells]
attribute [local go_sem ↓] Cpu.loadCpu_seal Cpu.storeCpu_seal Cpu.loadIn_seal Cpu.storeIn_seal Cpu.loadAc_seal Cpu.storeAc_seal Cpu.loadEn_seal Cpu.storeEn_seal
attribute [local go_sem] Cpu.loadCpu_run Cpu.storeCpu_run Cpu.loadIn_run Cpu.storeIn_run Cpu.rowAt_at Cpu.rowAt_past Cpu.rowAt_drew Cpu.rowAt_drewN Cpu.roomCpu_new Cpu.roomIn_new Cpu.roomAt_old Cpu.roomAt_drew Cpu.roomAt_drewN Cpu.putCpu_new Cpu.putIn_new Cpu.Cp.zero_fold Cpu.In.fold Cpu.putRow_past Cpu.rowCpu_put Cpu.rowIn_put Cpu.size_put Cpu.putRow_drew Cpu.putRow_drewN Cpu.alloc_drewN Cpu.setCell_drewN Cpu.Cp.at16 Cpu.Cp.at17 Cpu.Cp.at18 Cpu.Cp.at19 Cpu.Cp.at20 Cpu.Cp.at21 Cpu.Cp.size Cpu.Cp.set16 Cpu.Cp.set17 Cpu.Cp.set18 Cpu.Cp.set19 Cpu.Cp.set20 Cpu.Cp.set21 Cpu.In.at0 Cpu.In.at1 Cpu.In.at2 Cpu.In.at3 Cpu.In.at4 Cpu.In.at5 Cpu.In.at6 Cpu.In.at7 Cpu.In.size Cpu.In.set0 Cpu.In.set1 Cpu.In.set2 Cpu.In.set3 Cpu.In.ne Cpu.Cp.ne Cpu.In.set4 Cpu.In.set5 Cpu.In.set6 Cpu.In.set7 loadMid_run storeMid_run mc_size mc_cpu Cpu.loadAc_run Cpu.storeAc_run Cpu.loadEn_run Cpu.storeEn_run Cpu.putAc_new Cpu.putEn_new Cpu.roomAc_new Cpu.roomEn_new Cpu.rowAc_put Cpu.rowEn_put Cpu.Ac.at0 Cpu.Ac.at1 Cpu.Ac.at2 Cpu.Ac.size Cpu.Ac.ne Cpu.Ac.fold Cpu.En.at0 Cpu.En.at1 Cpu.En.at2 Cpu.En.at3 Cpu.En.size Cpu.En.set0 Cpu.En.set1 Cpu.En.set2 Cpu.En.set3 Cpu.Ac.set0 Cpu.Ac.set1 Cpu.Ac.set2 Cpu.En.ne Cpu.En.fold
set_option linter.unusedVariables false

theorem budget_is (n : Int) (w : World) : Calls Tryz.prog 21 #[.int .i64 n] w fun e w' => e = .returned (.int .i64 (min n 3000)) ∧ w' = w := by
  by_cases h : n ≤ 3000
  · rw [Int.min_eq_left h]
    go_enter Tryz.func21, Tryz.ntmps21
    go_wp2
    go_ret
    exact ⟨rfl, rfl⟩
  · rw [Int.min_eq_right (by omega)]
    have h' : 3000 < n := by omega
    go_enter Tryz.func21, Tryz.ntmps21
    go_wp2
    go_ret
    exact ⟨rfl, rfl⟩
structure TKept (X : World) (p b : Nat) (P : Ph) (q r : Nat) (Q : RPh) (g : Nat) (Y : Array Value) : Prop where
  row : Cpu.rowAt X g = some Y
  lt : g < X.heap.size
  n1 : ¬ MM p b P g
  n2 : ¬ RM q r Q g
theorem TKept.new {w X : World} {p b q r : Nat} {P : Ph} {Q : RPh} {m n : Ms} (h : TDuo w X p b P m q r Q n) (Y : Array Value) (t : TypeId) : TKept (X.alloc (.cells Y t)) p b P q r Q X.heap.size Y :=
  ⟨Cpu.rowAt_at _ _ _ _ _ rfl, by simp, fun e => by
    have : X.heap.size < X.heap.size := e.elim (fun e => by have := h.one.mac.plt; omega) (h.one.mac.bus.lt _)
    omega, fun e => absurd (h.two.lt _ e) (by omega)⟩
theorem TKept.fst {X Y : World} {p b q r : Nat} {P P' : Ph} {Q : RPh} {m' : Ms} {g : Nat} {Z : Array Value} (h : TKept X p b P q r Q g Z) (hs : MStp X p b P Y P' m') : TKept Y p b P' q r Q g Z :=
  ⟨(rowAt_same (hs.tou.block g h.lt h.n1)).trans h.row, Nat.lt_of_lt_of_le h.lt hs.tou.size, fun e => e.elim (fun e => h.n1 (.inl e)) fun e => (hs.new g e).elim (fun e => h.n1 (.inr e)) fun e => absurd h.lt (by omega), h.n2⟩
theorem TKept.snd {X Y : World} {p b q r : Nat} {P : Ph} {Q Q' : RPh} {m' : Ms} {g : Nat} {Z : Array Value} (h : TKept X p b P q r Q g Z) (hs : RMStp X q r Q Y Q' m') : TKept Y p b P q r Q' g Z :=
  ⟨(rowAt_same (hs.tou.block g h.lt h.n2)).trans h.row, Nat.lt_of_lt_of_le h.lt hs.tou.size, h.n1, fun e => e.elim (fun e => h.n2 (.inl e)) fun e => (hs.new g e).elim (fun e => h.n2 (.inr e)) fun e => absurd h.lt (by omega)⟩
theorem TKept.next {X Y : World} {p b q r : Nat} {P : Ph} {Q : RPh} {g : Nat} {Z : Array Value} (h : TKept X p b P q r Q g Z) (hb : Below X.heap.size X Y) : TKept Y p b P q r Q g Z :=
  ⟨(rowAt_same (hb.block g h.lt)).trans h.row, Nat.lt_of_lt_of_le h.lt hb.size, h.n1, h.n2⟩
theorem TKept.cell {X : World} {p b q r : Nat} {P : Ph} {Q : RPh} {g : Nat} {Z : Array Value} (h : TKept X p b P q r Q g Z) (j : Nat) : X.cell? ⟨g, j, none⟩ = Z[j]? := Cpu.rowAt_cell h.row j
theorem rfed_any (r : Nat) (P : RPh) (L : Lg) (s : ByteArray) (w : World) (h : RBus w r P L) (hs : s.size ≤ maxLen) : Calls Tryz.prog 31 #[.pointer (some ⟨r, 0, none⟩), .string s] w fun e w' => e = .returned (.int .i64 (fedE L s)) ∧ ∃ P', RStp w r P w' P' (L.fed s) := by
  unfold fedE Lg.fed
  by_cases hf : s.size + L.I.length ≤ 65536
  · rw [if_pos hf, if_pos hf]; exact rfeed_ok r P L s w h hf
  · rw [if_neg hf, if_neg hf]; exact (rfeed_full r P L s w h hs (by omega)).mono fun e w' ⟨he, hw⟩ => ⟨he, P, by rw [hw]; exact RStp.refl h⟩
attribute [local go_sem ↓] eqlEn_seal
attribute [local go_sem] eqlEn_same
def Both (w X : World) (p b q r : Nat) (st : Int) : Prop := ∃ P m Q, TDuo w X p b P m q r Q m ∧ m.st ≤ st
theorem run_st (m : Ms) (n : Int) : (m.run (steps (min n 3000))).2.st ≤ m.st + 3000 := by
  have := (run_ends (steps (min n 3000)) m).s.2
  have : (steps (min n 3000) : Int) ≤ 3000 := by unfold steps; omega
  omega
def stepC (k n : Int) (s : ByteArray) : Array Value := #[.int .i64 k, .int .i64 n, .string s]
set_option maxHeartbeats 1000000 in
set_option maxRecDepth 20000 in
theorem does_run {w X : World} {p b q r : Nat} {P : Ph} {Q : RPh} {m : Ms} (n : Int) (s : ByteArray) (h : TDuo w X p b P m q r Q m) (hn : i64B n) (hst : m.st ≤ 4611686018417387904) : Calls Tryz.prog 11 #[.pointer (some ⟨p, 0, none⟩), .pointer (some ⟨q, 0, none⟩), .agg #[.int .i64 1, .int .i64 n, .string s]] X fun e Y => e = .returned (.bool true) ∧ Both w Y p b q r (m.st + 3000) := by
  have H0 : Hid (TDuo w (X.alloc (.cells #[.int .i64 1, .int .i64 n, .string s] 35)) p b P m q r Q m ∧ TKept (X.alloc (.cells #[.int .i64 1, .int .i64 n, .string s] 35)) p b P q r Q X.heap.size #[.int .i64 1, .int .i64 n, .string s]) := ⟨h.next (al _), TKept.new h _ _⟩
  have hm : Hid (i64B (min n 3000)) := by show _ ∧ _; have := hn.1; omega
  have hS2 := run_st m n
  clear h
  generalize hE : m.tells (steps (min n 3000)) = E
  generalize hM : (m.run (steps (min n 3000))).2 = m1 at hS2
  have HE : Hid (m.tells (steps (min n 3000)) = E ∧ (m.run (steps (min n 3000))).2 = m1) := ⟨hE, hM⟩
  clear hE hM
  go_enter Tryz.func11, Tryz.ntmps11
  go_wp2_with (first
    | (go_at_call 21; refine (budget_is _ _).mono ?_; rintro e wz ⟨rfl, hw⟩; obtain rfl := hw.symm; clear hw)
    | (go_at_call 15; refine (run_any H0.out.1.one.mac (min n 3000) hm.out hst).mono ?_; rw [HE.out.1, HE.out.2]; rintro e w1 ⟨rfl, P1, hS⟩; have H1 : Hid (TDuo w (w1.alloc (.cells E.cells 41)) p b P1 m1 q r Q m ∧ TKept (w1.alloc (.cells E.cells 41)) p b P1 q r Q w1.heap.size E.cells) := ⟨(H0.out.1.fst hS).next (al _), TKept.new (H0.out.1.fst hS) _ _⟩; have c1 : w1.cell? ⟨X.heap.size, 1, none⟩ = some (.int .i64 n) := (H0.out.2.fst hS).cell 1; have l1 : X.heap.size < w1.heap.size := (H0.out.2.fst hS).lt; clear hS)
    | (go_at_call 30; refine (rrun_any H1.out.1.two (min n 3000) hm.out hst).mono ?_; rw [HE.out.1, HE.out.2]; rintro e w2 ⟨rfl, Q2, hS⟩; have H2 : Hid (TDuo w (w2.alloc (.cells E.cells 41)) p b P1 m1 q r Q2 m1) := (H1.out.1.snd hS).next (al _); have r1 : Cpu.rowAt w2 w1.heap.size = some E.cells := (H1.out.2.snd hS).row; have l2 : w1.heap.size < w2.heap.size := (H1.out.2.snd hS).lt; clear hS))
  go_ret
  exact ⟨by first | rfl | simp, P1, m1, Q2, H2.out, hS2⟩
set_option maxHeartbeats 1000000 in
set_option maxRecDepth 20000 in
theorem does_feed {w X : World} {p b q r : Nat} {P : Ph} {Q : RPh} {m : Ms} (n : Int) (s : ByteArray) (h : TDuo w X p b P m q r Q m) (hs : s.size ≤ maxLen) : Calls Tryz.prog 11 #[.pointer (some ⟨p, 0, none⟩), .pointer (some ⟨q, 0, none⟩), .agg #[.int .i64 2, .int .i64 n, .string s]] X fun e Y => e = .returned (.bool true) ∧ Both w Y p b q r (m.st + 3000) := by
  have H0 : Hid (TDuo w (X.alloc (.cells #[.int .i64 2, .int .i64 n, .string s] 35)) p b P m q r Q m ∧ TKept (X.alloc (.cells #[.int .i64 2, .int .i64 n, .string s] 35)) p b P q r Q X.heap.size #[.int .i64 2, .int .i64 n, .string s]) := ⟨h.next (al _), TKept.new h _ _⟩
  clear h
  have hfe : (fedE m.L s == fedE m.L s) = true := by simp
  go_enter Tryz.func11, Tryz.ntmps11
  go_wp2_with (go_at_call 14; refine (mfeed_any H0.out.1.one.mac s hs).mono ?_; rintro e w1 ⟨rfl, P1, hS⟩; have H1 : Hid (TDuo w w1.drew p b P1 { m with L := m.L.fed s } q r Q m) := (H0.out.1.fst hS).next (drB w1); have c2 : w1.cell? ⟨X.heap.size, 2, none⟩ = some (.string s) := (H0.out.2.fst hS).cell 2; have l1 : X.heap.size < w1.heap.size := (H0.out.2.fst hS).lt; have d22 : w1.cell? ⟨q, 22, none⟩ = some (.pointer (some ⟨r, 0, none⟩)) := (H0.out.1.fst hS).two.five.c22; clear hS)
  go_region_with (go_at_call 31; refine (rfed_any r Q m.L s _ H1.out.two.bus hs).mono ?_; rintro e w2 ⟨rfl, Q2, hS⟩; have H2 : Hid (TDuo w w2 p b P1 { m with L := m.L.fed s } q r Q2 { m with L := m.L.fed s }) := H1.out.snd (H1.out.two.stp hS); clear hS)
  all_goals
    go_wp2
    go_ret
    exact ⟨by first | rfl | simp, P1, _, Q2, H2.out, by show m.st ≤ m.st + 3000; omega⟩
set_option maxHeartbeats 1000000 in
set_option maxRecDepth 20000 in
theorem does_tick {w X : World} {p b q r : Nat} {P : Ph} {Q : RPh} {m : Ms} (n : Int) (s : ByteArray) (h : TDuo w X p b P m q r Q m) (hn : i64B n) : Calls Tryz.prog 11 #[.pointer (some ⟨p, 0, none⟩), .pointer (some ⟨q, 0, none⟩), .agg #[.int .i64 3, .int .i64 n, .string s]] X fun e Y => e = .returned (.bool true) ∧ Both w Y p b q r (m.st + 3000) := by
  have H0 : Hid (TDuo w (X.alloc (.cells #[.int .i64 3, .int .i64 n, .string s] 35)) p b P m q r Q m ∧ TKept (X.alloc (.cells #[.int .i64 3, .int .i64 n, .string s] 35)) p b P q r Q X.heap.size #[.int .i64 3, .int .i64 n, .string s]) := ⟨h.next (al _), TKept.new h _ _⟩
  clear h
  go_enter Tryz.func11, Tryz.ntmps11
  go_wp2_with (go_at_call 27; refine (mtick_any H0.out.1.one.mac (n % 4294967296) (by omega) (by omega)).mono ?_; rintro e w1 ⟨rfl, hS⟩; have H1 : Hid (TDuo w w1.drew p b P { m with L := { m.L with tk := (m.L.tk + n % 4294967296) % 4294967296 } } q r Q m) := (H0.out.1.fst hS).next (drB w1); have c1 : w1.cell? ⟨X.heap.size, 1, none⟩ = some (.int .i64 n) := (H0.out.2.fst hS).cell 1; have l1 : X.heap.size < w1.heap.size := (H0.out.2.fst hS).lt; have d22 : w1.cell? ⟨q, 22, none⟩ = some (.pointer (some ⟨r, 0, none⟩)) := (H0.out.1.fst hS).two.five.c22; clear hS)
  go_region_with (go_at_call 32; refine (rtick_any r Q m.L (n % 4294967296) _ H1.out.two.bus (by omega) (by omega)).mono ?_; rintro e w2 ⟨rfl, hS⟩; have H2 : Hid (TDuo w w2 p b P { m with L := { m.L with tk := (m.L.tk + n % 4294967296) % 4294967296 } } q r Q { m with L := { m.L with tk := (m.L.tk + n % 4294967296) % 4294967296 } }) := H1.out.snd (H1.out.two.stp hS); clear hS)
  all_goals
    go_wp2
    go_ret
    exact ⟨by first | rfl | simp, P, _, Q, H2.out, by show m.st ≤ m.st + 3000; omega⟩
set_option maxHeartbeats 1000000 in
set_option maxRecDepth 20000 in
theorem does_cut {w X : World} {p b q r : Nat} {P : Ph} {Q : RPh} {m : Ms} (n : Int) (s : ByteArray) (h : TDuo w X p b P m q r Q m) (hn : i64B n) : Calls Tryz.prog 11 #[.pointer (some ⟨p, 0, none⟩), .pointer (some ⟨q, 0, none⟩), .agg #[.int .i64 4, .int .i64 n, .string s]] X fun e Y => e = .returned (.bool true) ∧ Both w Y p b q r (m.st + 3000) := by
  have H0 : Hid (TDuo w (X.alloc (.cells #[.int .i64 4, .int .i64 n, .string s] 35)) p b P m q r Q m ∧ TKept (X.alloc (.cells #[.int .i64 4, .int .i64 n, .string s] 35)) p b P q r Q X.heap.size #[.int .i64 4, .int .i64 n, .string s]) := ⟨h.next (al _), TKept.new h _ _⟩
  clear h
  go_enter Tryz.func11, Tryz.ntmps11
  go_wp2_with (go_at_call 25; refine (mcutAt_any H0.out.1.one.mac n hn).mono ?_; rintro e w1 ⟨rfl, hS⟩; have H1 : Hid (TDuo w w1 p b P { m with cut := n } q r Q m) := H0.out.1.fst hS; have c1 : w1.cell? ⟨X.heap.size, 1, none⟩ = some (.int .i64 n) := (H0.out.2.fst hS).cell 1; have l1 : X.heap.size < w1.heap.size := (H0.out.2.fst hS).lt; have d23 : w1.cell? ⟨q, 23, none⟩ = some (.int .i64 m.cut) := (H0.out.1.fst hS).two.five.c23; have f23 : w1.frozen? ⟨q, 23, none⟩ = false := (H0.out.1.fst hS).two.free (by omega); clear hS)
  go_ret
  have K := H1.out.two
  exact ⟨by first | rfl | simp, P, { m with cut := n }, Q, H1.out.snd (K.put 23 (.int .i64 n) (rmc_set23 r m n) rfl ⟨K.ok.c, K.ok.st, hn⟩), by show m.st ≤ m.st + 3000; omega⟩
set_option maxHeartbeats 1000000 in
set_option maxRecDepth 20000 in
theorem does_word {w X : World} {p b q r : Nat} {P : Ph} {Q : RPh} {m : Ms} (k n : Int) (s : ByteArray) (h : TDuo w X p b P m q r Q m) (hn : i64B n) (h1 : k ≠ 1) (h2 : k ≠ 2) (h3 : k ≠ 3) (h4 : k ≠ 4) : Calls Tryz.prog 11 #[.pointer (some ⟨p, 0, none⟩), .pointer (some ⟨q, 0, none⟩), .agg #[.int .i64 k, .int .i64 n, .string s]] X fun e Y => e = .returned (.bool true) ∧ Both w Y p b q r (m.st + 3000) := by
  have H0 : Hid (TDuo w (X.alloc (.cells #[.int .i64 k, .int .i64 n, .string s] 35)) p b P m q r Q m ∧ TKept (X.alloc (.cells #[.int .i64 k, .int .i64 n, .string s] 35)) p b P q r Q X.heap.size #[.int .i64 k, .int .i64 n, .string s]) := ⟨h.next (al _), TKept.new h _ _⟩
  clear h
  have k1 : (k == 1) = false := by simpa using h1
  have k2 : (k == 2) = false := by simpa using h2
  have k3 : (k == 3) = false := by simpa using h3
  have k4 : (k == 4) = false := by simpa using h4
  go_enter Tryz.func11, Tryz.ntmps11
  go_wp2_with (go_at_call 24; refine (mword_any H0.out.1.one.mac (n % 4294967296) (by omega) (by omega)).mono ?_; rintro e w1 ⟨rfl, hb⟩; have H1 : Hid (TDuo w w1.drew p b P m q r Q m) := (H0.out.1.next hb).next (drB w1); have c1 : w1.cell? ⟨X.heap.size, 1, none⟩ = some (.int .i64 n) := (H0.out.2.next hb).cell 1; have l1 : X.heap.size < w1.heap.size := (H0.out.2.next hb).lt; have d22 : w1.cell? ⟨q, 22, none⟩ = some (.pointer (some ⟨r, 0, none⟩)) := (H0.out.1.next hb).two.five.c22; clear hb)
  go_region_with (go_at_call 33; refine (rword_any r Q m.L (n % 4294967296) _ H1.out.two.bus (by omega) (by omega)).mono ?_; rintro e w2 ⟨rfl, hw⟩; have H2 : Hid (TDuo w w2 p b P m q r Q m) := (by rw [hw]; exact H1.out); clear hw)
  all_goals
    generalize gotV m.L.M (n % 4294967296) = v
    generalize isW (n % 4294967296) = i
    cases i
    all_goals
      go_wp2
      go_ret
      exact ⟨by first | rfl | simp, P, _, Q, H2.out, by show m.st ≤ m.st + 3000; omega⟩
theorem does_any {w X : World} {p b q r : Nat} {P : Ph} {Q : RPh} {m : Ms} (k n : Int) (s : ByteArray) (h : TDuo w X p b P m q r Q m) (hn : i64B n) (hs : s.size ≤ maxLen) (hst : m.st ≤ 4611686018417387904) : Calls Tryz.prog 11 #[.pointer (some ⟨p, 0, none⟩), .pointer (some ⟨q, 0, none⟩), .agg #[.int .i64 k, .int .i64 n, .string s]] X fun e Y => e = .returned (.bool true) ∧ Both w Y p b q r (m.st + 3000) := by
  by_cases h1 : k = 1
  · subst h1; exact does_run n s h hn hst
  · by_cases h2 : k = 2
    · subst h2; exact does_feed n s h hs
    · by_cases h3 : k = 3
      · subst h3; exact does_tick n s h hn
      · by_cases h4 : k = 4
        · subst h4; exact does_cut n s h hn
        · exact does_word k n s h hn h1 h2 h3 h4
end Go.Proofs.YteegkhnikcioiaaGreatDoor

namespace Go.Proofs.YteegkhnikcioiaaGreatDoor
open Go.ChangeShapes Go.WideShapes Go.ChangeAt Go.RowKit
open Cpu (Cp In Ac En decOk decI accA rightB)
attribute [local go_sem ↓] Cpu.loadCpu_seal Cpu.storeCpu_seal Cpu.loadIn_seal Cpu.storeIn_seal Cpu.loadAc_seal Cpu.storeAc_seal Cpu.loadEn_seal Cpu.storeEn_seal
attribute [local go_sem] Cpu.loadCpu_run Cpu.storeCpu_run Cpu.loadIn_run Cpu.storeIn_run Cpu.rowAt_at Cpu.rowAt_past Cpu.rowAt_drew Cpu.rowAt_drewN Cpu.roomCpu_new Cpu.roomIn_new Cpu.roomAt_old Cpu.roomAt_drew Cpu.roomAt_drewN Cpu.putCpu_new Cpu.putIn_new Cpu.Cp.zero_fold Cpu.In.fold Cpu.putRow_past Cpu.rowCpu_put Cpu.rowIn_put Cpu.size_put Cpu.putRow_drew Cpu.putRow_drewN Cpu.alloc_drewN Cpu.setCell_drewN Cpu.Cp.at16 Cpu.Cp.at17 Cpu.Cp.at18 Cpu.Cp.at19 Cpu.Cp.at20 Cpu.Cp.at21 Cpu.Cp.size Cpu.Cp.set16 Cpu.Cp.set17 Cpu.Cp.set18 Cpu.Cp.set19 Cpu.Cp.set20 Cpu.Cp.set21 Cpu.In.at0 Cpu.In.at1 Cpu.In.at2 Cpu.In.at3 Cpu.In.at4 Cpu.In.at5 Cpu.In.at6 Cpu.In.at7 Cpu.In.size Cpu.In.set0 Cpu.In.set1 Cpu.In.set2 Cpu.In.set3 Cpu.In.ne Cpu.Cp.ne Cpu.In.set4 Cpu.In.set5 Cpu.In.set6 Cpu.In.set7 loadMid_run storeMid_run mc_size mc_cpu Cpu.loadAc_run Cpu.storeAc_run Cpu.loadEn_run Cpu.storeEn_run Cpu.putAc_new Cpu.putEn_new Cpu.roomAc_new Cpu.roomEn_new Cpu.rowAc_put Cpu.rowEn_put Cpu.Ac.at0 Cpu.Ac.at1 Cpu.Ac.at2 Cpu.Ac.size Cpu.Ac.ne Cpu.Ac.fold Cpu.En.at0 Cpu.En.at1 Cpu.En.at2 Cpu.En.at3 Cpu.En.size Cpu.En.set0 Cpu.En.set1 Cpu.En.set2 Cpu.En.set3 Cpu.Ac.set0 Cpu.Ac.set1 Cpu.Ac.set2 Cpu.En.ne Cpu.En.fold
set_option linter.unusedVariables false

set_option maxHeartbeats 1000000 in
set_option maxRecDepth 20000 in
theorem memory_any {w X : World} {p b q r : Nat} {P : Ph} {Q : RPh} {m : Ms} (h : TDuo w X p b P m q r Q m) : Calls Tryz.prog 13 #[.pointer (some ⟨p, 0, none⟩), .pointer (some ⟨q, 0, none⟩)] X fun e Y => e = .returned (.bool true) ∧ TDuo w Y p b P m q r Q m := by
  have H : Hid (TDuo w X p b P m q r Q m) := h
  clear h
  go_enter Tryz.func13, Tryz.ntmps13
  go_wp2_with fail
  go_loopw [5] (fun i Y => ∃ k : Nat, k ≤ 262144 ∧ i = .int .u32 (4 * (k : Int)) ∧ TDuo w Y p b P m q r Q m) (fun i _ => 1048576 - (intOf i).toNat)
  case atStart => exact ⟨0, by omega, rfl, H.out⟩
  case round =>
    obtain ⟨k, hk, rfl, hX⟩ := hrel
    have HX : Hid (TDuo w wr p b P m q r Q m) := hX
    clear hX
    by_cases hlt : k < 262144
    · have j1 : 4 * (k : Int) < 1048576 := by omega
      go_wp2_with (first
        | (go_at_call 24; refine (mword_any HX.out.one.mac (4 * (k : Int)) (by omega) (by omega)).mono ?_; rintro e w1 ⟨rfl, hb⟩; have H1 : Hid (TDuo w w1 p b P m q r Q m) := HX.out.next hb; have d22 : w1.cell? ⟨q, 22, none⟩ = some (.pointer (some ⟨r, 0, none⟩)) := (HX.out.next hb).two.five.c22; clear hb)
        | (go_at_call 33; refine (rword_any r Q m.L (4 * (k : Int)) _ H1.out.two.bus (by omega) (by omega)).mono ?_; rintro e w2 ⟨rfl, hw⟩; obtain rfl := hw.symm; clear hw; generalize gotV m.L.M (4 * (k : Int)) = gv; have hgv : (gv != gv) = false := (by simp)))
      go_roundw
      case rel => exact ⟨k + 1, by omega, by go_num, H1.out⟩
      case measure => simp [intOf]; omega
    · have j1 : ¬ 4 * (k : Int) < 1048576 := by omega
      go_wp2_with fail
      go_ret
      exact ⟨rfl, HX.out⟩
end Go.Proofs.YteegkhnikcioiaaGreatDoor
