/-
  Layer 6's numberOf, wordsTo and digits, the program's: the plain answer, of every text.
  Layer 6's digits and instruction, the program's: the plain answers, of every row of operands and every name, over the maps of names.
  Layer 6's with and filled, the program's: an instruction with its operands, over the maps of names.
-/
import Derived.Test.YtmldlkcgaepaaaaGreatDoorMPn
import Derived.Test.YtmldlkcgaepaaaaGreatDoorMFmt
import Derived.Test.YtmldlkcgaepaaaaGreatDoorMSh1
import Derived.Lib.AtoiErrMem
import Derived.Deep.LoopGhost
namespace Go.Proofs.YtmldlkcgaepaaaaGreatDoor
set_option linter.unusedVariables false
set_option linter.unusedSimpArgs false
open Go.ChangeShapes Go.WideShapes Go.ChangeAt Go.RowKit

theorem ret_ib {a a' : Int} {b b' : Bool} (h : a = a') (g : b = b') : Ending.returned (.tuple #[.int .i64 a, .bool b]) = .returned (.tuple #[.int .i64 a', .bool b']) := by rw [h, g]
theorem bs_eq (l : Bs) (s : ByteArray) : (bs l = s) = (l = s.data.toList) := by
  apply propext
  constructor
  · intro h; rw [← h, bs_data]
  · intro h; rw [h, bs_of]
theorem str_eq (a b : ByteArray) : (a.toList == b.toList) = decide (a.data.toList = b.data.toList) := by
  rw [Lib.toList_data, Lib.toList_data, Bool.eq_iff_iff]; simp
def numV (s : Bs) : Int := match Lib.atoiAll s with
  | .ok v => v
  | .syntax => 0
  | .range => Lib.atoiSat s
theorem numOf_some {s : Bs} {v : Int} (h : numOf s = some v) : numV s = v := by
  unfold numOf at h; unfold numV
  split at h <;> simp_all
theorem number_any (s : ByteArray) (hs : s.size ≤ 1000000) (w : World) (V : Vars w) :
    Calls Tryz.prog 85 #[.string s] w fun e w' => e = .returned (.tuple #[.int .i64 (numV s.data.toList), .bool (numOf s.data.toList).isSome]) ∧ Below w.heap.size w w' := by
  cases hA : Lib.atoiAll s.data.toList with
  | ok v =>
    have hT := Tryz.strconv_Atoi_ok s (by omega) v hA w
    have hb := Lib.atoiAll_bounds hA
    have e1 : numV s.data.toList = v := by simp [numV, hA]
    have e2 : (numOf s.data.toList).isSome = decide (Lib.itoa v = s.data.toList) := by
      simp only [numOf, hA]; split <;> simp_all
    rw [e1, e2]
    have HV : Hid (Vars w) := V
    clear e1 e2 hA V
    go_enter Tryz.func85, Tryz.ntmps85
    go_wp2_with (first | (go_at_call 109; refine hT.mono ?_; rintro e w1 ⟨rfl, hw⟩; have hb1 : Below w.heap.size w w1 := (by rcases hw with rfl | ⟨t, rfl⟩ <;> first | exact Below.refl _ _ | exact Lib.bytesWorld_below _ _ _); clear hw) | (go_at_call 39; refine (itoa_any v _ (HV.out.call hb1) hb.1 hb.2).mono ?_; rintro e w2 ⟨rfl, hb2⟩))
    go_ret2
    exact ⟨ret_ib rfl (by rw [str_eq, bs_data]), hb1.trans (hb2.mono hb1.size)⟩
  | «syntax» =>
    obtain ⟨t, p, hsy⟩ := V.syn
    have hT := Tryz.strconv_Atoi_syntax s (by omega) hA _ w hsy (.inr ⟨t, p, rfl⟩)
    have e1 : numV s.data.toList = 0 := by simp [numV, hA]
    have e2 : (numOf s.data.toList).isSome = false := by simp [numOf, hA]
    rw [e1, e2]
    clear e1 e2 hA V hsy
    go_enter Tryz.func85, Tryz.ntmps85
    go_wp2_with (go_at_call 109; refine hT.mono ?_; rintro e w1 ⟨N, rfl, _, _, hb1⟩)
    go_ret2
    exact ⟨rfl, hb1⟩
  | range =>
    obtain ⟨t, p, hsy⟩ := V.rng
    have hT := Tryz.strconv_Atoi_range s (by omega) hA _ w hsy (.inr ⟨t, p, rfl⟩)
    have e1 : numV s.data.toList = Lib.atoiSat s.data.toList := by simp [numV, hA]
    have e2 : (numOf s.data.toList).isSome = false := by simp [numOf, hA]
    rw [e1, e2]
    clear e1 e2 hA V hsy
    go_enter Tryz.func85, Tryz.ntmps85
    go_wp2_with (go_at_call 109; refine hT.mono ?_; rintro e w1 ⟨N, rfl, _, _, hb1⟩)
    go_ret2
    exact ⟨rfl, hb1⟩
/-- What wordsTo answers beside its bool. -/
def wtoV (s : Bs) (a : Int) : Int := match Lib.parseUintB 32 s with
  | .ok u => if Lib.itoa u = s then (wayOf u a).tdiv 4 else 0
  | _ => 0
theorem wordsTo_some {s : Bs} {a v : Int} (h : wordsTo s a = some v) : wtoV s a = v := by
  unfold wordsTo at h; unfold wtoV
  split at h <;> simp_all
theorem parse32_lt {l : List UInt8} {u : Nat} (h : Lib.parseUintB 32 l = .ok u) : u < 4294967296 := by
  have key : ∀ (l : List UInt8) (acc u : Nat), acc ≤ 4294967295 → Lib.parseUintM (2 ^ 32 - 1) acc l = .ok u → u ≤ 4294967295 := by
    intro l
    induction l with
    | nil => intro acc u ha h; simp [Lib.parseUintM] at h; omega
    | cons c r ih =>
      intro acc u ha h
      simp only [Lib.parseUintM] at h
      split at h
      · split at h
        · cases h
        · split at h
          · cases h
          · exact ih _ u (by omega) h
      · cases h
  unfold Lib.parseUintB at h
  split at h
  · cases h
  · have := key l 0 u (by omega) h; omega
theorem sext32_bd (x : Int) (h0 : 0 ≤ x) (h1 : x ≤ 4294967295) : -2147483648 ≤ sext x 32 ∧ sext x 32 ≤ 2147483647 := by
  unfold sext; simp; unfold sx; simp; split <;> omega
theorem way_bd (u a : Int) : -2147483648 ≤ wayOf u a ∧ wayOf u a ≤ 2147483647 := sext32_bd _ (by omega) (by omega)
theorem way_wrap (u a : Int) : wrap64 ((sext ((u - (a + 4)) % 4294967296) 32).tdiv 4) = (wayOf u a).tdiv 4 := by
  have h := way_bd u a
  show wrap64 ((wayOf u a).tdiv 4) = _
  have : -2147483648 ≤ (wayOf u a).tdiv 4 ∧ (wayOf u a).tdiv 4 ≤ 2147483647 := by
    rcases Int.le_total 0 (wayOf u a) with h2 | h2
    · rw [Int.tdiv_eq_ediv_of_nonneg h2]; omega
    · rw [show wayOf u a = -(-(wayOf u a)) by omega, Int.neg_tdiv, Int.tdiv_eq_ediv_of_nonneg (by omega)]; omega
  generalize (wayOf u a).tdiv 4 = y at this
  unfold wrap64; omega
theorem wordsTo_any (s : ByteArray) (a : Int) (hs : s.size ≤ 1000000) (w : World) (V : Vars w) :
    Calls Tryz.prog 84 #[.string s, .int .u32 a] w fun e w' => e = .returned (.tuple #[.int .i64 (wtoV s.data.toList a), .bool (wordsTo s.data.toList a).isSome]) ∧ Below w.heap.size w w' := by
  cases hA : Lib.parseUintB 32 s.data.toList with
  | ok u =>
    have hT := Tryz.strconv_ParseUint_10_at32_ok s (by omega) u hA w
    have hu := parse32_lt hA
    have HV : Hid (Vars w) := V
    clear V
    have hF : ∀ w, Vars w → Calls Tryz.prog 62 #[.int .u64 u, .int .i64 10] w fun e w' => e = .returned (.string (bs (Lib.itoa u))) ∧ Below w.heap.size w w' := fun w V => fmt_any u (by omega) w V
    by_cases he : Lib.itoa u = s.data.toList
    · have e1 : wtoV s.data.toList a = (wayOf u a).tdiv 4 := by simp [wtoV, hA, he]
      have e2 : (wordsTo s.data.toList a).isSome = decide ((wayOf u a).tmod 4 = 0) := by
        simp only [wordsTo, hA, he, if_true]; split <;> simp_all
      rw [e1, e2]
      have hq : ((bs (Lib.itoa u)).toList == s.toList) = true := by rw [str_eq, bs_data]; simpa using he
      clear e1 e2 hA he
      go_enter Tryz.func84, Tryz.ntmps84
      go_wp2_with (first | (go_at_call 108; refine hT.mono ?_; rintro e w1 ⟨rfl, hw⟩; have hb1 : Below w.heap.size w w1 := (by rcases hw with rfl | rfl <;> first | exact Below.refl _ _ | exact Lib.bytesWorld_below _ _ _); clear hw) | (go_at_call 62; refine (hF _ (HV.out.call hb1)).mono ?_; rintro e w2 ⟨rfl, hb2⟩) | (go_at_call 63; refine (behind_any a _).mono ?_; rintro e w' ⟨rfl, hw⟩; obtain rfl := hw.symm; clear hw) | (go_at_call 94; refine (sext_any _ _ _ (by omega) (by omega)).mono ?_; rintro e w' ⟨rfl, hx⟩; obtain rfl := hx.symm; clear hx))
      go_ret2
      exact ⟨ret_ib (way_wrap u a) (by unfold wayOf; exact Bool.eq_iff_iff.2 ⟨fun h => decide_eq_true (beq_iff_eq.1 h), fun h => beq_iff_eq.2 (of_decide_eq_true h)⟩), hb1.trans (hb2.mono hb1.size)⟩
    · have e1 : wtoV s.data.toList a = 0 := by simp [wtoV, hA, he]
      have e2 : (wordsTo s.data.toList a).isSome = false := by simp [wordsTo, hA, he]
      rw [e1, e2]
      have hq : ((bs (Lib.itoa u)).toList == s.toList) = false := by rw [str_eq, bs_data]; simpa using he
      clear e1 e2 hA he
      go_enter Tryz.func84, Tryz.ntmps84
      go_wp2_with (first | (go_at_call 108; refine hT.mono ?_; rintro e w1 ⟨rfl, hw⟩; have hb1 : Below w.heap.size w w1 := (by rcases hw with rfl | rfl <;> first | exact Below.refl _ _ | exact Lib.bytesWorld_below _ _ _); clear hw) | (go_at_call 62; refine (hF _ (HV.out.call hb1)).mono ?_; rintro e w2 ⟨rfl, hb2⟩))
      go_ret2
      exact ⟨rfl, hb1.trans (hb2.mono hb1.size)⟩
  | «syntax» =>
    obtain ⟨t, p, hsy⟩ := V.syn
    have hT := Tryz.strconv_ParseUint_10_at32_syntax s (by omega) hA _ w hsy (.inr ⟨t, p, rfl⟩)
    have e1 : wtoV s.data.toList a = 0 := by simp [wtoV, hA]
    have e2 : (wordsTo s.data.toList a).isSome = false := by simp [wordsTo, hA]
    rw [e1, e2]
    clear e1 e2 hA V hsy
    go_enter Tryz.func84, Tryz.ntmps84
    go_wp2_with (go_at_call 108; refine hT.mono ?_; rintro e w1 ⟨N, rfl, _, _, hb1⟩)
    go_ret2
    exact ⟨rfl, hb1⟩
  | range =>
    obtain ⟨t, p, hsy⟩ := V.rng
    have hT := Tryz.strconv_ParseUint_10_at32_range s (by omega) hA _ w hsy (.inr ⟨t, p, rfl⟩)
    have e1 : wtoV s.data.toList a = 0 := by simp [wtoV, hA]
    have e2 : (wordsTo s.data.toList a).isSome = false := by simp [wordsTo, hA]
    rw [e1, e2]
    clear e1 e2 hA V hsy
    go_enter Tryz.func84, Tryz.ntmps84
    go_wp2_with (go_at_call 108; refine hT.mono ?_; rintro e w1 ⟨N, rfl, _, _, hb1⟩)
    go_ret2
    exact ⟨rfl, hb1⟩
end Go.Proofs.YtmldlkcgaepaaaaGreatDoor

namespace Go.Proofs.YtmldlkcgaepaaaaGreatDoor
set_option linter.unusedVariables false
set_option linter.unusedSimpArgs false
open Go.ChangeShapes Go.WideShapes Go.ChangeAt Go.RowKit
attribute [local go_sem ↓] loadIn_seal storeIn_seal
attribute [local go_sem] loadIn_run storeIn_run rowAt_at rowAt_old rowAt_drew rowAt_drewN roomCpu_new roomIn_new roomAt_old roomAt_drew roomAt_drewN putCpu_new putIn_new Cp.zero_fold In.fold putRow_past rowCpu_put rowIn_put size_put putRow_drew putRow_drewN alloc_drewN setCell_drewN Cp.at16 Cp.at17 Cp.at18 Cp.at19 Cp.at20 Cp.at21 Cp.size Cp.set16 Cp.set17 Cp.set18 Cp.set19 Cp.set20 Cp.set21 In.at0 In.at1 In.at2 In.at3 In.at4 In.at5 In.at6 In.at7 In.size In.set0 In.set1 In.set2 In.set3 In.ne Cp.ne In.set4 In.set5 In.set6 In.set7

theorem ret_ub {a a' : Int} {b b' : Bool} (h : a = a') (g : b = b') : Ending.returned (.tuple #[.int .u32 a, .bool b]) = .returned (.tuple #[.int .u32 a', .bool b']) := by rw [h, g]
def digV (l : List Bs) : Int := match l with
  | [s] => unV (bs s)
  | _ => 0
theorem digits_one (s : Bs) (hl : s.length ≤ 1000000) (g cap : Nat) (hcap1 : 1 ≤ cap) (w : World) (hc : w.cell? ⟨g, 0, none⟩ = some (.string (bs s))) :
    Calls Tryz.prog 22 #[.slice (some ⟨g, 0, none⟩) 1 cap] w fun e w' => e = .returned (.tuple #[.int .u32 (unV (bs s)), .bool (unE (bs s) == 0)]) ∧ Below w.heap.size w w' := by
  have hU := unhex_any (bs s) w (by rw [bs_size]; unfold maxLen; omega)
  go_enter Tryz.func22, Tryz.ntmps22
  go_wp2_with (go_at_call 46; refine hU.mono ?_; rintro e w1 ⟨rfl, hb⟩)
  go_ret2
  exact ⟨rfl, hb⟩
theorem digits_many (n : Nat) (hn : n ≤ 1000001) (h2 : n ≠ 1) (g cap : Nat) (w : World) :
    Calls Tryz.prog 22 #[.slice (some ⟨g, 0, none⟩) n cap] w fun e w' => e = .returned (.tuple #[.int .u32 0, .bool false]) ∧ Below w.heap.size w w' := by
  have hne : ((n : Int) != 1) = true := by simp; omega
  go_enter Tryz.func22, Tryz.ntmps22
  go_wp2
  go_ret2
  exact ⟨rfl, Below.refl _ _⟩
theorem digits_any (l : List Bs) (hl : ∀ x ∈ l, x.length ≤ 1000000) (hn : l.length ≤ 1000001) (h1 : 0 < l.length) {B : Nat} {v : Value} (w : World) (hown : w.ownsRow B 9 1 v l.length (strs l)) :
    Calls Tryz.prog 22 #[v] w fun e w' => e = .returned (.tuple #[.int .u32 (digV l), .bool (digitsP l).isSome]) ∧ Below w.heap.size w w' := by
  obtain ⟨g, cap, rfl, _, hg, hcap, hcell, _⟩ := own_row hown h1
  match l, hl, hn, h1, hown, hcell, hcap with
  | [], _, _, h, _, _, _ => simp at h
  | [s], hl, hn, h1, hown, hcell, hcap =>
    have e2 : (digitsP [s]).isSome = (unE (bs s) == 0) := by
      simp only [digitsP, unE]; split <;> simp_all
    rw [e2]
    exact digits_one s (hl s (by simp)) g cap hcap w ((hcell 0 (by simp)).trans (strs_at (l := [s]) (by simp)))
  | s :: t :: r, hl, hn, h1, hown, hcell, hcap => exact digits_many _ hn (by simp) g cap w

def encI (p : Bs × Int) : Bs × Value := (p.1, .int .i64 p.2)
def encN (p : Bs × In) : Bs × Value := (p.1, .agg p.2.cells)
theorem look_encI (L : List (Bs × Int)) (k : Bs) : look (L.map encI) k = (look L k).map fun n => .int .i64 n := by
  induction L with
  | nil => rfl
  | cons x r ih => rw [List.map_cons, look_cons, look_cons, ih]; unfold encI; split <;> simp
theorem look_encN (L : List (Bs × In)) (k : Bs) : look (L.map encN) k = (look L k).map fun n => .agg n.cells := by
  induction L with
  | nil => rfl
  | cons x r ih => rw [List.map_cons, look_cons, look_cons, ih]; unfold encN; split <;> simp
/-- The maps of names, as allNames makes them. -/
structure Known (w : World) (b0 b1 b2 b3 : Nat) : Prop where
  r : MapIs w b0 ((regL 16).map encI)
  c : MapIs w b1 ((condL 16).map encI)
  br : MapIs w b2 ((allN 64).r.map encN)
  bn : MapIs w b3 ((allN 64).n.map encN)
def knownC (b0 b1 b2 b3 : Nat) : Array Value := #[.map (some b0), .map (some b1), .map (some b2), .map (some b3)]
theorem Known.call {w w' : World} {b0 b1 b2 b3 : Nat} (h : Known w b0 b1 b2 b3) (hb : Below w.heap.size w w') : Known w' b0 b1 b2 b3 := ⟨h.r.call hb, h.c.call hb, h.br.call hb, h.bn.call hb⟩
theorem Known.call' {w w' : World} {b0 b1 b2 b3 : Nat} (h : Known w b0 b1 b2 b3) (hb : Below w.heap.size w w') : Known w' b0 b1 b2 b3 := h.call hb
theorem Known.drew {w : World} {b0 b1 b2 b3 : Nat} (h : Known w b0 b1 b2 b3) : Known w.drew b0 b1 b2 b3 := h.call (Below.refl _ _).drew
theorem Known.alloc {w : World} {b0 b1 b2 b3 : Nat} (h : Known w b0 b1 b2 b3) (o : Obj) : Known (w.alloc o) b0 b1 b2 b3 := h.call ((Below.refl _ _).alloc (Nat.le_refl _) _)
def zeroIn : In := { F := 0, U := false, V := false, A := 0, B := 0, O := 0, C := 0, N := 0 }
theorem zero42 (w : World) : (zeroValue 52).run Tryz.prog w = .ok (.agg zeroIn.cells) w := by kernel_rfl
theorem zero3 (w : World) : (zeroValue 3).run Tryz.prog w = .ok (.int .i64 0) w := by kernel_rfl
def instrV (name last : Bs) : In := (instrP name last).getD zeroIn
theorem instr_any (name last : ByteArray) (hs : name.size ≤ 1000000) (ht : last.size ≤ 1000000) {b0 b1 b2 b3 : Nat} (w : World) (K : Known w b0 b1 b2 b3) :
    Calls Tryz.prog 23 #[.agg #[.map (some b0), .map (some b1), .map (some b2), .map (some b3)], .string name, .string last] w fun e w' => e = .returned (.tuple #[.agg (instrV name.data.toList last.data.toList).cells, .bool (instrP name.data.toList last.data.toList).isSome]) ∧ Below w.heap.size w w' := by
  have lr := look_encI (regL 16) last.data.toList
  have HK : Hid (Known w b0 b1 b2 b3) := K
  have m1 : name.size ≤ maxLen := by unfold maxLen; omega
  have m2 : last.size ≤ maxLen := by unfold maxLen; omega
  clear K
  cases hr : regOf last.data.toList with
  | none =>
    have hr' : look (regL 16) last.data.toList = none := hr
    rw [hr'] at lr
    have e0 : instrP name.data.toList last.data.toList = look (allN 64).n name.data.toList := by simp [instrP, hr]
    have ln := look_encN (allN 64).n name.data.toList
    unfold instrV
    rw [e0]
    clear hr hr' e0
    cases hn : look (allN 64).n name.data.toList with
    | none =>
      rw [hn] at ln
      clear hn
      go_enter Tryz.func23, Tryz.ntmps23
      go_wp2_with (first | (at_lookup; refine wpList_look rfl _ _ 31 rfl 3 Tryz.underlying31 (zero3 _) b0 _ rfl ((HK.out.alloc _).alloc _).r last rfl m2 (.int .i64 0) false (by rw [lr]; rfl) (by rw [lr]; rfl) ?_) | (at_lookup; refine wpList_look rfl _ _ 32 rfl 52 Tryz.underlying32 (zero42 _) b3 _ rfl ((HK.out.alloc _).alloc _).bn name rfl m1 (.agg zeroIn.cells) false (by rw [ln]; rfl) (by rw [ln]; rfl) ?_))
      refine ret_cell_tmp rfl rfl (loadIn_row (c := zeroIn) ?_) rfl ⟨rfl, ?_⟩
      · simp [go_sem]
      · go_grown
    | some i =>
      rw [hn] at ln
      clear hn
      go_enter Tryz.func23, Tryz.ntmps23
      go_wp2_with (first | (at_lookup; refine wpList_look rfl _ _ 31 rfl 3 Tryz.underlying31 (zero3 _) b0 _ rfl ((HK.out.alloc _).alloc _).r last rfl m2 (.int .i64 0) false (by rw [lr]; rfl) (by rw [lr]; rfl) ?_) | (at_lookup; refine wpList_look rfl _ _ 32 rfl 52 Tryz.underlying32 (zero42 _) b3 _ rfl ((HK.out.alloc _).alloc _).bn name rfl m1 (.agg i.cells) true (by rw [ln]; rfl) (by rw [ln]; rfl) ?_))
      refine ret_cell_tmp rfl rfl (loadIn_row (c := i) ?_) rfl ⟨rfl, ?_⟩
      · simp [go_sem]
      · go_grown
  | some n =>
    have hr' : look (regL 16) last.data.toList = some n := hr
    rw [hr'] at lr
    have e0 : instrP name.data.toList last.data.toList = look (allN 64).r name.data.toList := by simp [instrP, hr]
    have ln := look_encN (allN 64).r name.data.toList
    unfold instrV
    rw [e0]
    clear hr hr' e0
    cases hn : look (allN 64).r name.data.toList with
    | none =>
      rw [hn] at ln
      clear hn
      go_enter Tryz.func23, Tryz.ntmps23
      go_wp2_with (first | (at_lookup; refine wpList_look rfl _ _ 31 rfl 3 Tryz.underlying31 (zero3 _) b0 _ rfl ((HK.out.alloc _).alloc _).r last rfl m2 (.int .i64 n) true (by rw [lr]; rfl) (by rw [lr]; rfl) ?_) | (at_lookup; refine wpList_look rfl _ _ 32 rfl 52 Tryz.underlying32 (zero42 _) b2 _ rfl ((HK.out.alloc _).alloc _).br name rfl m1 (.agg zeroIn.cells) false (by rw [ln]; rfl) (by rw [ln]; rfl) ?_))
      refine ret_cell_tmp rfl rfl (loadIn_row (c := zeroIn) ?_) rfl ⟨rfl, ?_⟩
      · simp [go_sem]
      · go_grown
    | some i =>
      rw [hn] at ln
      clear hn
      go_enter Tryz.func23, Tryz.ntmps23
      go_wp2_with (first | (at_lookup; refine wpList_look rfl _ _ 31 rfl 3 Tryz.underlying31 (zero3 _) b0 _ rfl ((HK.out.alloc _).alloc _).r last rfl m2 (.int .i64 n) true (by rw [lr]; rfl) (by rw [lr]; rfl) ?_) | (at_lookup; refine wpList_look rfl _ _ 32 rfl 52 Tryz.underlying32 (zero42 _) b2 _ rfl ((HK.out.alloc _).alloc _).br name rfl m1 (.agg i.cells) true (by rw [ln]; rfl) (by rw [ln]; rfl) ?_))
      refine ret_cell_tmp rfl rfl (loadIn_row (c := i) ?_) rfl ⟨rfl, ?_⟩
      · simp [go_sem]
      · go_grown
end Go.Proofs.YtmldlkcgaepaaaaGreatDoor

namespace Go.Proofs.YtmldlkcgaepaaaaGreatDoor
set_option linter.unusedVariables false
set_option linter.unusedSimpArgs false
open Go.ChangeShapes Go.WideShapes Go.ChangeAt Go.RowKit
attribute [local go_sem ↓] loadIn_seal storeIn_seal
attribute [local go_sem] loadIn_run storeIn_run rowAt_at rowAt_old rowAt_drew rowAt_drewN roomCpu_new roomIn_new roomAt_old roomAt_drew roomAt_drewN putCpu_new putIn_new Cp.zero_fold In.fold putRow_past rowCpu_put rowIn_put size_put putRow_drew putRow_drewN alloc_drewN setCell_drewN Cp.at16 Cp.at17 Cp.at18 Cp.at19 Cp.at20 Cp.at21 Cp.size Cp.set16 Cp.set17 Cp.set18 Cp.set19 Cp.set20 Cp.set21 In.at0 In.at1 In.at2 In.at3 In.at4 In.at5 In.at6 In.at7 In.size In.set0 In.set1 In.set2 In.set3 In.ne Cp.ne In.set4 In.set5 In.set6 In.set7

/-- What with answers beside its bool. -/
def withV (i : In) (k : UInt8) (s : Bs) (a : Int) : In :=
  if k = 65 then { i with A := (regOf s).getD 0 } else if k = 66 then { i with B := (regOf s).getD 0 } else if k = 67 then { i with C := (regOf s).getD 0 }
  else if k = 63 then { i with A := (condOf s).getD 0 } else if k = 64 then { i with N := wtoV s a } else if k = 110 then { i with N := numV s } else i
theorem withP_some {i i' : In} {k : UInt8} {s : Bs} {a : Int} (h : withP i k s a = some i') : withV i k s a = i' := by
  by_cases c1 : k = 65
  · subst c1; obtain ⟨n, hn, rfl⟩ := Option.map_eq_some_iff.1 (show (regOf s).map (fun n => { i with A := n }) = some i' from h); show ({ i with A := (regOf s).getD 0 } : In) = _; rw [hn]; rfl
  by_cases c2 : k = 66
  · subst c2; obtain ⟨n, hn, rfl⟩ := Option.map_eq_some_iff.1 (show (regOf s).map (fun n => { i with B := n }) = some i' from h); show ({ i with B := (regOf s).getD 0 } : In) = _; rw [hn]; rfl
  by_cases c3 : k = 67
  · subst c3; obtain ⟨n, hn, rfl⟩ := Option.map_eq_some_iff.1 (show (regOf s).map (fun n => { i with C := n }) = some i' from h); show ({ i with C := (regOf s).getD 0 } : In) = _; rw [hn]; rfl
  by_cases c4 : k = 63
  · subst c4; obtain ⟨n, hn, rfl⟩ := Option.map_eq_some_iff.1 (show (condOf s).map (fun n => { i with A := n }) = some i' from h); show ({ i with A := (condOf s).getD 0 } : In) = _; rw [hn]; rfl
  by_cases c5 : k = 64
  · subst c5; obtain ⟨n, hn, rfl⟩ := Option.map_eq_some_iff.1 (show (wordsTo s a).map (fun n => { i with N := n }) = some i' from h); show ({ i with N := wtoV s a } : In) = _; rw [wordsTo_some hn]
  by_cases c6 : k = 110
  · subst c6; obtain ⟨n, hn, rfl⟩ := Option.map_eq_some_iff.1 (show (numOf s).map (fun n => { i with N := n }) = some i' from h); show ({ i with N := numV s } : In) = _; rw [numOf_some hn]
  · simp [withP, c1, c2, c3, c4, c5, c6] at h
theorem getI (o : Option Int) : (o.map fun n => (.int .i64 n : Value)).getD (.int .i64 0) = .int .i64 (o.getD 0) := by cases o <;> rfl
theorem isI (o : Option Int) : (o.map fun n => (.int .i64 n : Value)).isSome = o.isSome := by cases o <;> rfl
def kindsAll : List UInt8 := [65, 66, 67, 63, 64, 110]
theorem row_set {w : World} {b n : Nat} {X : Array Value} (h : rowAt w b = some X) (hr : roomAt w b n = true) (j : Nat) (v : Value) (hj : j < n) : rowAt (w.setCell ⟨b, j, none⟩ v) b = some (X.setIfInBounds j v) ∧ roomAt (w.setCell ⟨b, j, none⟩ v) b n = true := by
  unfold roomAt at hr
  unfold rowAt at h
  split at hr
  case h_2 => cases hr
  rename_i cs t fr hb
  rw [hb] at h
  simp only [Option.some.injEq] at h
  subst h
  have hlt : b < w.heap.size := (Array.getElem?_eq_some_iff.1 hb).1
  have e : (w.setCell ⟨b, j, none⟩ v).heap[b]? = some (.cells (cs.setIfInBounds j v) t fr) := by
    simp only [World.setCell, Array.getElem?_modify, if_true, hb, Option.map_some]; simp
  simp only [rowAt, roomAt, e]
  exact ⟨trivial, by simpa using hr⟩
theorem far_set {w : World} {b b' : Nat} (j : Nat) (v : Value) (hb : b' ≠ b) : rowAt (w.setCell ⟨b, j, none⟩ v) b' = rowAt w b' ∧ ∀ n, roomAt (w.setCell ⟨b, j, none⟩ v) b' n = roomAt w b' n := by
  have e : (w.setCell ⟨b, j, none⟩ v).heap[b']? = w.heap[b']? := Below.heap_setCell _ _ _ _ hb
  simp only [rowAt, roomAt, e]
  exact ⟨trivial, fun _ => trivial⟩
theorem row_free {w : World} {b n : Nat} (hr : roomAt w b n = true) (j : Nat) : w.frozen? ⟨b, j, none⟩ = false := by
  unfold roomAt at hr
  split at hr
  case h_2 => cases hr
  rename_i cs t fr hb
  simp only [Bool.and_eq_true, beq_iff_eq] at hr
  simp [World.frozen?, hb, hr.2]
theorem with_A (i : In) (s : ByteArray) (a : Int) (hs : s.size ≤ 1000000) {b0 b1 b2 b3 : Nat} (w : World) (K : Known w b0 b1 b2 b3) :
    Calls Tryz.prog 47 #[.agg #[.map (some b0), .map (some b1), .map (some b2), .map (some b3)], .agg i.cells, .int .i32 65, .string s, .int .u32 a] w fun e w' => e = .returned (.tuple #[.agg ({ i with A := (regOf s.data.toList).getD 0 } : In).cells, .bool (regOf s.data.toList).isSome]) ∧ Below w.heap.size w w' := by
  have lr := look_encI (regL 16) s.data.toList
  have l1 := getI (regOf s.data.toList)
  have l2 := isI (regOf s.data.toList)
  have HK : Hid (Known w b0 b1 b2 b3) := K
  have m2 : s.size ≤ maxLen := by unfold maxLen; omega
  clear K
  unfold regOf at l1 l2 ⊢
  rw [← lr] at l1 l2
  generalize (look (regL 16) s.data.toList).getD 0 = X at l1 ⊢
  generalize (look (regL 16) s.data.toList).isSome = Y at l2 ⊢
  go_enter Tryz.func47, Tryz.ntmps47
  go_wp2_with (at_lookup; refine wpList_look rfl _ _ 31 rfl 3 Tryz.underlying31 (zero3 _) b0 _ rfl (((HK.out.alloc _).alloc _).alloc _).r s rfl m2 (.int .i64 X) Y l1 l2 ?_)
  refine ret_cell_tmp rfl rfl (loadIn_row (c := { i with A := X }) ?_) rfl ⟨rfl, ?_⟩
  · simp [go_sem]
  · go_grown
theorem with_B (i : In) (s : ByteArray) (a : Int) (hs : s.size ≤ 1000000) {b0 b1 b2 b3 : Nat} (w : World) (K : Known w b0 b1 b2 b3) :
    Calls Tryz.prog 47 #[.agg #[.map (some b0), .map (some b1), .map (some b2), .map (some b3)], .agg i.cells, .int .i32 66, .string s, .int .u32 a] w fun e w' => e = .returned (.tuple #[.agg ({ i with B := (regOf s.data.toList).getD 0 } : In).cells, .bool (regOf s.data.toList).isSome]) ∧ Below w.heap.size w w' := by
  have lr := look_encI (regL 16) s.data.toList
  have l1 := getI (regOf s.data.toList)
  have l2 := isI (regOf s.data.toList)
  have HK : Hid (Known w b0 b1 b2 b3) := K
  have m2 : s.size ≤ maxLen := by unfold maxLen; omega
  clear K
  unfold regOf at l1 l2 ⊢
  rw [← lr] at l1 l2
  generalize (look (regL 16) s.data.toList).getD 0 = X at l1 ⊢
  generalize (look (regL 16) s.data.toList).isSome = Y at l2 ⊢
  go_enter Tryz.func47, Tryz.ntmps47
  go_wp2_with (at_lookup; refine wpList_look rfl _ _ 31 rfl 3 Tryz.underlying31 (zero3 _) b0 _ rfl (((HK.out.alloc _).alloc _).alloc _).r s rfl m2 (.int .i64 X) Y l1 l2 ?_)
  refine ret_cell_tmp rfl rfl (loadIn_row (c := { i with B := X }) ?_) rfl ⟨rfl, ?_⟩
  · simp [go_sem]
  · go_grown
theorem with_C (i : In) (s : ByteArray) (a : Int) (hs : s.size ≤ 1000000) {b0 b1 b2 b3 : Nat} (w : World) (K : Known w b0 b1 b2 b3) :
    Calls Tryz.prog 47 #[.agg #[.map (some b0), .map (some b1), .map (some b2), .map (some b3)], .agg i.cells, .int .i32 67, .string s, .int .u32 a] w fun e w' => e = .returned (.tuple #[.agg ({ i with C := (regOf s.data.toList).getD 0 } : In).cells, .bool (regOf s.data.toList).isSome]) ∧ Below w.heap.size w w' := by
  have lr := look_encI (regL 16) s.data.toList
  have l1 := getI (regOf s.data.toList)
  have l2 := isI (regOf s.data.toList)
  have HK : Hid (Known w b0 b1 b2 b3) := K
  have m2 : s.size ≤ maxLen := by unfold maxLen; omega
  clear K
  unfold regOf at l1 l2 ⊢
  rw [← lr] at l1 l2
  generalize (look (regL 16) s.data.toList).getD 0 = X at l1 ⊢
  generalize (look (regL 16) s.data.toList).isSome = Y at l2 ⊢
  go_enter Tryz.func47, Tryz.ntmps47
  go_wp2_with (at_lookup; refine wpList_look rfl _ _ 31 rfl 3 Tryz.underlying31 (zero3 _) b0 _ rfl (((HK.out.alloc _).alloc _).alloc _).r s rfl m2 (.int .i64 X) Y l1 l2 ?_)
  refine ret_cell_tmp rfl rfl (loadIn_row (c := { i with C := X }) ?_) rfl ⟨rfl, ?_⟩
  · simp [go_sem]
  · go_grown
theorem with_Q (i : In) (s : ByteArray) (a : Int) (hs : s.size ≤ 1000000) {b0 b1 b2 b3 : Nat} (w : World) (K : Known w b0 b1 b2 b3) :
    Calls Tryz.prog 47 #[.agg #[.map (some b0), .map (some b1), .map (some b2), .map (some b3)], .agg i.cells, .int .i32 63, .string s, .int .u32 a] w fun e w' => e = .returned (.tuple #[.agg ({ i with A := (condOf s.data.toList).getD 0 } : In).cells, .bool (condOf s.data.toList).isSome]) ∧ Below w.heap.size w w' := by
  have lr := look_encI (condL 16) s.data.toList
  have l1 := getI (condOf s.data.toList)
  have l2 := isI (condOf s.data.toList)
  have HK : Hid (Known w b0 b1 b2 b3) := K
  have m2 : s.size ≤ maxLen := by unfold maxLen; omega
  clear K
  unfold condOf at l1 l2 ⊢
  rw [← lr] at l1 l2
  generalize (look (condL 16) s.data.toList).getD 0 = X at l1 ⊢
  generalize (look (condL 16) s.data.toList).isSome = Y at l2 ⊢
  go_enter Tryz.func47, Tryz.ntmps47
  go_wp2_with (at_lookup; refine wpList_look rfl _ _ 31 rfl 3 Tryz.underlying31 (zero3 _) b1 _ rfl (((HK.out.alloc _).alloc _).alloc _).c s rfl m2 (.int .i64 X) Y l1 l2 ?_)
  refine ret_cell_tmp rfl rfl (loadIn_row (c := { i with A := X }) ?_) rfl ⟨rfl, ?_⟩
  · simp [go_sem]
  · go_grown
theorem with_T (i : In) (s : ByteArray) (a : Int) (hs : s.size ≤ 1000000) {b0 b1 b2 b3 : Nat} (w : World) (V : Vars w) :
    Calls Tryz.prog 47 #[.agg #[.map (some b0), .map (some b1), .map (some b2), .map (some b3)], .agg i.cells, .int .i32 64, .string s, .int .u32 a] w fun e w' => e = .returned (.tuple #[.agg ({ i with N := wtoV s.data.toList a } : In).cells, .bool (wordsTo s.data.toList a).isSome]) ∧ Below w.heap.size w w' := by
  have hT := wordsTo_any s a hs _ (((V.alloc (.cells #[.map (some b0), .map (some b1), .map (some b2), .map (some b3)] 34)).alloc (.cells i.cells 52)).alloc (.cells zeroIn.cells 52))
  generalize wtoV s.data.toList a = X at hT ⊢
  generalize (wordsTo s.data.toList a).isSome = Y at hT ⊢
  clear V
  go_enter Tryz.func47, Tryz.ntmps47
  go_wp2_with (go_at_call 84; refine hT.mono ?_; rintro e w1 ⟨rfl, hb⟩; have hs1 := hb.size; simp at hs1; have q0 : rowAt w1 (w.heap.size + 1) = some i.cells := (rowAt_below hb _ (by simp)).trans (by simp [go_sem]); have p0 : roomAt w1 (w.heap.size + 1) 8 = true := (roomAt_below hb _ _ (by simp)).trans (by simp [go_sem]); have p2 : roomAt w1 (w.heap.size + 2) 8 = true := (roomAt_below hb _ _ (by simp)).trans (roomIn_new _ _ _ _ (by simp)); have q2 := rowAt_cell q0; have q3 := row_free p0; obtain ⟨q4, q4r⟩ := row_set q0 p0 7 (.int .i64 X) (by omega); have q5 := (far_set (w := w1) (b := w.heap.size + 1) (b' := w.heap.size + 2) 7 (.int .i64 X) (by omega)).2 8; rw [p2] at q5)
  refine ret_cell_tmp rfl rfl (loadIn_row (c := { i with N := X }) (rowIn_put _ _ _ q5)) rfl ⟨rfl, below_put ?_ _ (by omega) _⟩
  have B0 : Below w.heap.size w (((w.alloc (.cells #[.map (some b0), .map (some b1), .map (some b2), .map (some b3)] 34)).alloc (.cells i.cells 52)).alloc (.cells zeroIn.cells 52)) := by go_grown
  exact (B0.trans (hb.mono (by simp; omega))).setCell (by show w.heap.size ≤ w.heap.size + 1; omega) _
theorem with_N (i : In) (s : ByteArray) (a : Int) (hs : s.size ≤ 1000000) {b0 b1 b2 b3 : Nat} (w : World) (V : Vars w) :
    Calls Tryz.prog 47 #[.agg #[.map (some b0), .map (some b1), .map (some b2), .map (some b3)], .agg i.cells, .int .i32 110, .string s, .int .u32 a] w fun e w' => e = .returned (.tuple #[.agg ({ i with N := numV s.data.toList } : In).cells, .bool (numOf s.data.toList).isSome]) ∧ Below w.heap.size w w' := by
  have hT := number_any s hs _ (((V.alloc (.cells #[.map (some b0), .map (some b1), .map (some b2), .map (some b3)] 34)).alloc (.cells i.cells 52)).alloc (.cells zeroIn.cells 52))
  generalize numV s.data.toList = X at hT ⊢
  generalize (numOf s.data.toList).isSome = Y at hT ⊢
  clear V
  go_enter Tryz.func47, Tryz.ntmps47
  go_wp2_with (go_at_call 85; refine hT.mono ?_; rintro e w1 ⟨rfl, hb⟩; have hs1 := hb.size; simp at hs1; have q0 : rowAt w1 (w.heap.size + 1) = some i.cells := (rowAt_below hb _ (by simp)).trans (by simp [go_sem]); have p0 : roomAt w1 (w.heap.size + 1) 8 = true := (roomAt_below hb _ _ (by simp)).trans (by simp [go_sem]); have p2 : roomAt w1 (w.heap.size + 2) 8 = true := (roomAt_below hb _ _ (by simp)).trans (roomIn_new _ _ _ _ (by simp)); have q2 := rowAt_cell q0; have q3 := row_free p0; obtain ⟨q4, q4r⟩ := row_set q0 p0 7 (.int .i64 X) (by omega); have q5 := (far_set (w := w1) (b := w.heap.size + 1) (b' := w.heap.size + 2) 7 (.int .i64 X) (by omega)).2 8; rw [p2] at q5)
  refine ret_cell_tmp rfl rfl (loadIn_row (c := { i with N := X }) (rowIn_put _ _ _ q5)) rfl ⟨rfl, below_put ?_ _ (by omega) _⟩
  have B0 : Below w.heap.size w (((w.alloc (.cells #[.map (some b0), .map (some b1), .map (some b2), .map (some b3)] 34)).alloc (.cells i.cells 52)).alloc (.cells zeroIn.cells 52)) := by go_grown
  exact (B0.trans (hb.mono (by simp; omega))).setCell (by show w.heap.size ≤ w.heap.size + 1; omega) _
theorem with_any (i : In) (k : UInt8) (hk : k ∈ kindsAll) (s : ByteArray) (a : Int) (hs : s.size ≤ 1000000) {b0 b1 b2 b3 : Nat} (w : World) (K : Known w b0 b1 b2 b3) (V : Vars w) :
    Calls Tryz.prog 47 #[.agg #[.map (some b0), .map (some b1), .map (some b2), .map (some b3)], .agg i.cells, .int .i32 k.toNat, .string s, .int .u32 a] w fun e w' => e = .returned (.tuple #[.agg (withV i k s.data.toList a).cells, .bool (withP i k s.data.toList a).isSome]) ∧ Below w.heap.size w w' := by
  simp only [kindsAll, List.mem_cons, List.not_mem_nil, or_false] at hk
  rcases hk with rfl | rfl | rfl | rfl | rfl | rfl
  · have := with_A i s a hs w K
    simpa [withP, withV] using this
  · have := with_B i s a hs w K
    simpa [withP, withV] using this
  · have := with_C i s a hs w K
    simpa [withP, withV] using this
  · have := with_Q i s a hs w K
    simpa [withP, withV] using this
  · have := with_T (b0 := b0) (b1 := b1) (b2 := b2) (b3 := b3) i s a hs w V
    simpa [withP, withV] using this
  · have := with_N (b0 := b0) (b1 := b1) (b2 := b2) (b3 := b3) i s a hs w V
    simpa [withP, withV] using this
end Go.Proofs.YtmldlkcgaepaaaaGreatDoor
