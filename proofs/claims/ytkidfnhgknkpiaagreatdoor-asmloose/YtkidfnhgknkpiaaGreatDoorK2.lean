/-
  Layer 6's digits and instruction, the program's: the plain answers, of every row of operands and every name, over the maps of names.
-/
import Derived.Test.YtkidfnhgknkpiaaGreatDoorK1
namespace Go.Proofs.YtkidfnhgknkpiaaGreatDoor
set_option linter.unusedVariables false
set_option linter.unusedSimpArgs false
open Go.ChangeShapes Go.WideShapes Go.ChangeAt Go.RowKit
attribute [local go_sem ↓] loadIn_seal storeIn_seal
attribute [local go_sem] loadIn_run storeIn_run rowAt_at rowAt_old rowAt_drew rowAt_drewN roomCpu_new roomIn_new roomAt_old roomAt_drew roomAt_drewN putCpu_new putIn_new Cp.zero_fold In.fold putRow_past rowCpu_put rowIn_put size_put putRow_drew putRow_drewN alloc_drewN setCell_drewN Cp.at16 Cp.at17 Cp.at18 Cp.at19 Cp.at20 Cp.at21 Cp.size Cp.set16 Cp.set17 Cp.set18 Cp.set19 Cp.set20 Cp.set21 In.at0 In.at1 In.at2 In.at3 In.at4 In.at5 In.at6 In.at7 In.size In.set0 In.set1 In.set2 In.set3 In.ne Cp.ne In.set4 In.set5 In.set6 In.set7

theorem ret_ub {a a' : Int} {b b' : Bool} (h : a = a') (g : b = b') : Ending.returned (.tuple #[.int .u32 a, .bool b]) = .returned (.tuple #[.int .u32 a', .bool b']) := by rw [h, g]
def digV (l : List Bs) : Int := match l with
  | [s] => unV (bs s)
  | _ => 0
theorem digits_one (s : Bs) (hl : s.length ≤ 1000000) (g cap : Nat) (hcap1 : 1 ≤ cap) (w : World) (hc : w.cell? ⟨g, 0, none⟩ = some (.string (bs s))) :
    Calls Tryz.prog 63 #[.slice (some ⟨g, 0, none⟩) 1 cap] w fun e w' => e = .returned (.tuple #[.int .u32 (unV (bs s)), .bool (unE (bs s) == 0)]) ∧ Below w.heap.size w w' := by
  have hU := unhex_any (bs s) w (by rw [bs_size]; unfold maxLen; omega)
  go_enter Tryz.func63, Tryz.ntmps63
  go_wp2_with (go_at_call 93; refine hU.mono ?_; rintro e w1 ⟨rfl, hb⟩)
  go_ret2
  exact ⟨rfl, hb⟩
theorem digits_many (n : Nat) (hn : n ≤ 1000001) (h2 : n ≠ 1) (g cap : Nat) (w : World) :
    Calls Tryz.prog 63 #[.slice (some ⟨g, 0, none⟩) n cap] w fun e w' => e = .returned (.tuple #[.int .u32 0, .bool false]) ∧ Below w.heap.size w w' := by
  have hne : ((n : Int) != 1) = true := by simp; omega
  go_enter Tryz.func63, Tryz.ntmps63
  go_wp2
  go_ret2
  exact ⟨rfl, Below.refl _ _⟩
theorem digits_any (l : List Bs) (hl : ∀ x ∈ l, x.length ≤ 1000000) (hn : l.length ≤ 1000001) (h1 : 0 < l.length) {B : Nat} {v : Value} (w : World) (hown : w.ownsRow B 9 1 v l.length (strs l)) :
    Calls Tryz.prog 63 #[v] w fun e w' => e = .returned (.tuple #[.int .u32 (digV l), .bool (digitsP l).isSome]) ∧ Below w.heap.size w w' := by
  obtain ⟨g, cap, rfl, _, hg, hcap, hcell, _⟩ := own_row hown h1
  match l, hl, hn, h1, hown, hcell, hcap with
  | [], _, _, h, _, _, _ => simp at h
  | [s], hl, hn, h1, hown, hcell, hcap =>
    have e2 : (digitsP [s]).isSome = (unE (bs s) == 0) := by
      simp only [digitsP, unE]; split <;> simp_all
    rw [e2]
    exact digits_one s (hl s (by simp)) g cap hcap w ((hcell 0 (by simp)).trans (strs_at (l := [s]) (by simp)))
  | s :: t :: r, hl, hn, h1, hown, hcell, hcap => exact digits_many _ hn (by simp) g cap w

def encI (p : Bs × Int) : Bs × Value := (p.1, .int .i64 p.2)
def encN (p : Bs × In) : Bs × Value := (p.1, .agg p.2.cells)
theorem look_encI (L : List (Bs × Int)) (k : Bs) : look (L.map encI) k = (look L k).map fun n => .int .i64 n := by
  induction L with
  | nil => rfl
  | cons x r ih => rw [List.map_cons, look_cons, look_cons, ih]; unfold encI; split <;> simp
theorem look_encN (L : List (Bs × In)) (k : Bs) : look (L.map encN) k = (look L k).map fun n => .agg n.cells := by
  induction L with
  | nil => rfl
  | cons x r ih => rw [List.map_cons, look_cons, look_cons, ih]; unfold encN; split <;> simp
/-- The maps of names, as allNames makes them. -/
structure Known (w : World) (b0 b1 b2 b3 : Nat) : Prop where
  r : MapIs w b0 ((regL 16).map encI)
  c : MapIs w b1 ((condL 16).map encI)
  br : MapIs w b2 ((allN 64).r.map encN)
  bn : MapIs w b3 ((allN 64).n.map encN)
def knownC (b0 b1 b2 b3 : Nat) : Array Value := #[.map (some b0), .map (some b1), .map (some b2), .map (some b3)]
theorem Known.call {w w' : World} {b0 b1 b2 b3 : Nat} (h : Known w b0 b1 b2 b3) (hb : Below w.heap.size w w') : Known w' b0 b1 b2 b3 := ⟨h.r.call hb, h.c.call hb, h.br.call hb, h.bn.call hb⟩
theorem Known.call' {w w' : World} {b0 b1 b2 b3 : Nat} (h : Known w b0 b1 b2 b3) (hb : Below w.heap.size w w') : Known w' b0 b1 b2 b3 := h.call hb
theorem Known.drew {w : World} {b0 b1 b2 b3 : Nat} (h : Known w b0 b1 b2 b3) : Known w.drew b0 b1 b2 b3 := h.call (Below.refl _ _).drew
theorem Known.alloc {w : World} {b0 b1 b2 b3 : Nat} (h : Known w b0 b1 b2 b3) (o : Obj) : Known (w.alloc o) b0 b1 b2 b3 := h.call ((Below.refl _ _).alloc (Nat.le_refl _) _)
def zeroIn : In := { F := 0, U := false, V := false, A := 0, B := 0, O := 0, C := 0, N := 0 }
theorem zero42 (w : World) : (zeroValue 42).run Tryz.prog w = .ok (.agg zeroIn.cells) w := by kernel_rfl
theorem zero3 (w : World) : (zeroValue 3).run Tryz.prog w = .ok (.int .i64 0) w := by kernel_rfl
def instrV (name last : Bs) : In := (instrP name last).getD zeroIn
theorem instr_any (name last : ByteArray) (hs : name.size ≤ 1000000) (ht : last.size ≤ 1000000) {b0 b1 b2 b3 : Nat} (w : World) (K : Known w b0 b1 b2 b3) :
    Calls Tryz.prog 64 #[.agg #[.map (some b0), .map (some b1), .map (some b2), .map (some b3)], .string name, .string last] w fun e w' => e = .returned (.tuple #[.agg (instrV name.data.toList last.data.toList).cells, .bool (instrP name.data.toList last.data.toList).isSome]) ∧ Below w.heap.size w w' := by
  have lr := look_encI (regL 16) last.data.toList
  have HK : Hid (Known w b0 b1 b2 b3) := K
  have m1 : name.size ≤ maxLen := by unfold maxLen; omega
  have m2 : last.size ≤ maxLen := by unfold maxLen; omega
  clear K
  cases hr : regOf last.data.toList with
  | none =>
    have hr' : look (regL 16) last.data.toList = none := hr
    rw [hr'] at lr
    have e0 : instrP name.data.toList last.data.toList = look (allN 64).n name.data.toList := by simp [instrP, hr]
    have ln := look_encN (allN 64).n name.data.toList
    unfold instrV
    rw [e0]
    clear hr hr' e0
    cases hn : look (allN 64).n name.data.toList with
    | none =>
      rw [hn] at ln
      clear hn
      go_enter Tryz.func64, Tryz.ntmps64
      go_wp2_with (first | (at_lookup; refine wpList_look rfl _ _ 54 rfl 3 Tryz.underlying54 (zero3 _) b0 _ rfl ((HK.out.alloc _).alloc _).r last rfl m2 (.int .i64 0) false (by rw [lr]; rfl) (by rw [lr]; rfl) ?_) | (at_lookup; refine wpList_look rfl _ _ 55 rfl 42 Tryz.underlying55 (zero42 _) b3 _ rfl ((HK.out.alloc _).alloc _).bn name rfl m1 (.agg zeroIn.cells) false (by rw [ln]; rfl) (by rw [ln]; rfl) ?_))
      refine ret_cell_tmp rfl rfl (loadIn_row (c := zeroIn) ?_) rfl ⟨rfl, ?_⟩
      · simp [go_sem]
      · go_grown
    | some i =>
      rw [hn] at ln
      clear hn
      go_enter Tryz.func64, Tryz.ntmps64
      go_wp2_with (first | (at_lookup; refine wpList_look rfl _ _ 54 rfl 3 Tryz.underlying54 (zero3 _) b0 _ rfl ((HK.out.alloc _).alloc _).r last rfl m2 (.int .i64 0) false (by rw [lr]; rfl) (by rw [lr]; rfl) ?_) | (at_lookup; refine wpList_look rfl _ _ 55 rfl 42 Tryz.underlying55 (zero42 _) b3 _ rfl ((HK.out.alloc _).alloc _).bn name rfl m1 (.agg i.cells) true (by rw [ln]; rfl) (by rw [ln]; rfl) ?_))
      refine ret_cell_tmp rfl rfl (loadIn_row (c := i) ?_) rfl ⟨rfl, ?_⟩
      · simp [go_sem]
      · go_grown
  | some n =>
    have hr' : look (regL 16) last.data.toList = some n := hr
    rw [hr'] at lr
    have e0 : instrP name.data.toList last.data.toList = look (allN 64).r name.data.toList := by simp [instrP, hr]
    have ln := look_encN (allN 64).r name.data.toList
    unfold instrV
    rw [e0]
    clear hr hr' e0
    cases hn : look (allN 64).r name.data.toList with
    | none =>
      rw [hn] at ln
      clear hn
      go_enter Tryz.func64, Tryz.ntmps64
      go_wp2_with (first | (at_lookup; refine wpList_look rfl _ _ 54 rfl 3 Tryz.underlying54 (zero3 _) b0 _ rfl ((HK.out.alloc _).alloc _).r last rfl m2 (.int .i64 n) true (by rw [lr]; rfl) (by rw [lr]; rfl) ?_) | (at_lookup; refine wpList_look rfl _ _ 55 rfl 42 Tryz.underlying55 (zero42 _) b2 _ rfl ((HK.out.alloc _).alloc _).br name rfl m1 (.agg zeroIn.cells) false (by rw [ln]; rfl) (by rw [ln]; rfl) ?_))
      refine ret_cell_tmp rfl rfl (loadIn_row (c := zeroIn) ?_) rfl ⟨rfl, ?_⟩
      · simp [go_sem]
      · go_grown
    | some i =>
      rw [hn] at ln
      clear hn
      go_enter Tryz.func64, Tryz.ntmps64
      go_wp2_with (first | (at_lookup; refine wpList_look rfl _ _ 54 rfl 3 Tryz.underlying54 (zero3 _) b0 _ rfl ((HK.out.alloc _).alloc _).r last rfl m2 (.int .i64 n) true (by rw [lr]; rfl) (by rw [lr]; rfl) ?_) | (at_lookup; refine wpList_look rfl _ _ 55 rfl 42 Tryz.underlying55 (zero42 _) b2 _ rfl ((HK.out.alloc _).alloc _).br name rfl m1 (.agg i.cells) true (by rw [ln]; rfl) (by rw [ln]; rfl) ?_))
      refine ret_cell_tmp rfl rfl (loadIn_row (c := i) ?_) rfl ⟨rfl, ?_⟩
      · simp [go_sem]
      · go_grown
end Go.Proofs.YtkidfnhgknkpiaaGreatDoor
