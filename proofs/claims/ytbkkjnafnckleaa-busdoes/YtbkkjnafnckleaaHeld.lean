/-
  One thing is done to both buses: they answer alike, and hold alike.
-/
import Derived.Test.YtbkkjnafnckleaaDuo
import Derived.Test.YtbkkjnafnckleaaLineW
import Derived.Deep.RegionWith
namespace Go.Proofs.Ytbkkjnafnckleaa
open Go.ChangeShapes Go.WideShapes Go.ChangeAt Go.RowKit
attribute [local go_sem ↓] loadSec_seal storeSec_seal eqlSec_seal zeroSec
attribute [local go_sem] loadSec_run storeSec_run rowAt_at rowAt_old rowAt_drew rowAt_drewN roomSec_new roomAt_old roomAt_drew roomAt_drewN putSec_new putRow_past rowSec_put size_put putRow_drew putRow_drewN alloc_drewN setCell_drewN sec_size

set_option linter.unusedVariables false

/-- What is done. -/
structure Opp where
  k : Int
  ak : Int
  aa : Int
  av : Int
  s : ByteArray
def Opp.val (o : Opp) : Value := .agg #[.int .i64 o.k, .int .i64 o.ak, .int .u32 o.aa, .int .u32 o.av, .string o.s]
structure Opp.Ok (o : Opp) : Prop where
  k0 : -9223372036854775808 ≤ o.k
  k1 : o.k ≤ 9223372036854775807
  a0 : 0 ≤ o.aa
  a1 : o.aa ≤ 4294967295
  v0 : 0 ≤ o.av
  v1 : o.av ≤ 4294967295
  s1 : o.s.size ≤ maxLen
/-- Both buses hold the same. -/
def Same (w : World) (b r : Nat) (X : World) : Prop := ∃ P L Q, Duo w b P L r Q L X
theorem Same.next {w X Y : World} {b r : Nat} (h : Same w b r X) (hb : Below X.heap.size X Y) : Same w b r Y := by
  obtain ⟨P, L, Q, hD⟩ := h
  exact ⟨P, L, Q, hD.next hb⟩
def boxO (o : Opp) : Obj := .cells #[.int .i64 o.k, .int .i64 o.ak, .int .u32 o.aa, .int .u32 o.av, .string o.s] 34
structure BoxC (X : World) (g : Nat) (o : Opp) : Prop where
  c0 : X.cell? ⟨g, 0, none⟩ = some (.int .i64 o.k)
  c1 : X.cell? ⟨g, 1, none⟩ = some (.int .i64 o.ak)
  c2 : X.cell? ⟨g, 2, none⟩ = some (.int .u32 o.aa)
  c3 : X.cell? ⟨g, 3, none⟩ = some (.int .u32 o.av)
  c4 : X.cell? ⟨g, 4, none⟩ = some (.string o.s)
theorem box_of {w X : World} {o : Opp} (h : X.heap[w.heap.size]? = (w.alloc (boxO o)).heap[w.heap.size]?) : BoxC X w.heap.size o := by
  have e : rowAt X w.heap.size = some #[.int .i64 o.k, .int .i64 o.ak, .int .u32 o.aa, .int .u32 o.av, .string o.s] := (rowAt_same h).trans (rowAt_new _ _ _ _)
  exact ⟨rowAt_cell e 0, rowAt_cell e 1, rowAt_cell e 2, rowAt_cell e 3, rowAt_cell e 4⟩
set_option maxHeartbeats 1000000 in
theorem held_0 (w : World) (b r : Nat) (o : Opp) (X : World) (h : Same w b r X) (ho : o.Ok) (hk : pickI o.k 6 = 0) : Calls Try.prog 10 #[.pointer (some ⟨b, 0, none⟩), .pointer (some ⟨r, 0, none⟩), o.val] X fun e Y => e = .returned (.bool true) ∧ Same w b r Y := by
  obtain ⟨P, L, Q, hD⟩ := h
  have hb0 : Below X.heap.size X (X.alloc (boxO o)) := (Below.refl _ X).alloc (Nat.le_refl _) _
  have HD : Hid (Duo w b P L r Q L (X.alloc (boxO o)) ∧ Duo w b P L r Q L X) := ⟨hD.next hb0, hD⟩
  have HO : Hid o.Ok := ho
  have k0 := ho.k0
  have k1 := ho.k1
  clear hD ho
  unfold Opp.val
  go_enter Try.func10, Try.ntmps10
  go_wp2_with (first
    | (go_at_call 20; refine (pick_any _ _ _ (by assumption) (by assumption) (by decide) (by decide)).mono ?_; rintro e wz ⟨rfl, hw⟩; obtain rfl := hw.symm)
    | (go_at_call 17; refine (do_any b P L o.ak o.aa o.av _ HD.out.1.own.bus HO.out.a0 HO.out.a1 HO.out.v0 HO.out.v1).mono ?_; rintro e v1 ⟨rfl, P1, hS⟩; have HD1 : Hid (Duo w b P1 (L.step o.ak o.aa o.av).2 r Q L v1) := HD.out.1.stepB hS; have bx := box_of (HD.out.2.cellB (Nat.le_refl _) hb0 (by simp) hS); have x1 := bx.c1; have x2 := bx.c2; have x3 := bx.c3; clear hS bx HD)
    | (go_at_call 30; refine (rdo_any r Q L o.ak o.aa o.av _ HD1.out.ref HO.out.a0 HO.out.a1 HO.out.v0 HO.out.v1).mono ?_; rintro e v2 ⟨rfl, Q1, hS⟩; have HD2 : Hid (Same w b r v2) := ⟨P1, _, Q1, HD1.out.stepR hS⟩; clear hS HD1))
  go_ret
  exact ⟨by simp, HD2.out⟩
set_option maxHeartbeats 1000000 in
theorem held_2 (w : World) (b r : Nat) (o : Opp) (X : World) (h : Same w b r X) (ho : o.Ok) (hk : pickI o.k 6 = 2) : Calls Try.prog 10 #[.pointer (some ⟨b, 0, none⟩), .pointer (some ⟨r, 0, none⟩), o.val] X fun e Y => e = .returned (.bool true) ∧ Same w b r Y := by
  obtain ⟨P, L, Q, hD⟩ := h
  have hb0 : Below X.heap.size X (X.alloc (boxO o)) := (Below.refl _ X).alloc (Nat.le_refl _) _
  have HD : Hid (Duo w b P L r Q L (X.alloc (boxO o)) ∧ Duo w b P L r Q L X) := ⟨hD.next hb0, hD⟩
  have HO : Hid o.Ok := ho
  have k0 := ho.k0
  have k1 := ho.k1
  clear hD ho
  unfold Opp.val
  go_enter Try.func10, Try.ntmps10
  go_wp2_with (first
    | (go_at_call 20; refine (pick_any _ _ _ (by assumption) (by assumption) (by decide) (by decide)).mono ?_; rintro e wz ⟨rfl, hw⟩; obtain rfl := hw.symm)
    | (go_at_call 27; refine (tick_any b P L o.av _ HD.out.1.own.bus HO.out.v0 HO.out.v1).mono ?_; rintro e v1 ⟨rfl, hS⟩; have HD1 : Hid (Duo w b P { L with tk := (L.tk + o.av) % 4294967296 } r Q L v1) := HD.out.1.stepB hS; have bx := box_of (HD.out.2.cellB (Nat.le_refl _) hb0 (by simp) hS); have x3 := bx.c3; clear hS bx HD)
    | (go_at_call 32; refine (rtick_any r Q L o.av _ HD1.out.ref HO.out.v0 HO.out.v1).mono ?_; rintro e v2 ⟨rfl, hS⟩; have HD2 : Hid (Same w b r v2) := ⟨P, _, Q, HD1.out.stepR hS⟩; clear hS HD1))
  go_ret
  exact ⟨rfl, HD2.out⟩
set_option maxHeartbeats 1000000 in
theorem held_3 (w : World) (b r : Nat) (o : Opp) (X : World) (h : Same w b r X) (ho : o.Ok) (hk : pickI o.k 6 = 3) : Calls Try.prog 10 #[.pointer (some ⟨b, 0, none⟩), .pointer (some ⟨r, 0, none⟩), o.val] X fun e Y => e = .returned (.bool true) ∧ Same w b r Y := by
  obtain ⟨P, L, Q, hD⟩ := h
  have hb0 : Below X.heap.size X (X.alloc (boxO o)) := (Below.refl _ X).alloc (Nat.le_refl _) _
  have HD : Hid (Duo w b P L r Q L (X.alloc (boxO o)) ∧ Duo w b P L r Q L X) := ⟨hD.next hb0, hD⟩
  have HO : Hid o.Ok := ho
  have k0 := ho.k0
  have k1 := ho.k1
  clear hD ho
  unfold Opp.val
  go_enter Try.func10, Try.ntmps10
  go_wp2_with (first
    | (go_at_call 20; refine (pick_any _ _ _ (by assumption) (by assumption) (by decide) (by decide)).mono ?_; rintro e wz ⟨rfl, hw⟩; obtain rfl := hw.symm)
    | (go_at_call 21; refine (waiting_any b P L _ HD.out.1.own.bus).mono ?_; rintro e v1 ⟨rfl, hw⟩; obtain rfl := hw.symm)
    | (go_at_call 33; refine (rwaiting_any r Q L _ HD.out.1.ref).mono ?_; rintro e v1 ⟨rfl, hw⟩; obtain rfl := hw.symm)
    | (go_at_call 22; refine (out_any b P L _ HD.out.1.own.bus).mono ?_; rintro e v1 ⟨rfl, hw⟩; obtain rfl := hw.symm)
    | (go_at_call 34; refine (rout_any r Q L _ HD.out.1.ref).mono ?_; rintro e v1 ⟨rfl, hw⟩; obtain rfl := hw.symm))
  go_ret
  exact ⟨by simp, P, L, Q, HD.out.1⟩
set_option maxHeartbeats 1000000 in
theorem held_4 (w : World) (b r : Nat) (o : Opp) (X : World) (h : Same w b r X) (ho : o.Ok) (hk : pickI o.k 6 = 4) : Calls Try.prog 10 #[.pointer (some ⟨b, 0, none⟩), .pointer (some ⟨r, 0, none⟩), o.val] X fun e Y => e = .returned (.bool true) ∧ Same w b r Y := by
  obtain ⟨P, L, Q, hD⟩ := h
  have hb0 : Below X.heap.size X (X.alloc (boxO o)) := (Below.refl _ X).alloc (Nat.le_refl _) _
  have HD : Hid (Duo w b P L r Q L (X.alloc (boxO o)) ∧ Duo w b P L r Q L X) := ⟨hD.next hb0, hD⟩
  have HO : Hid o.Ok := ho
  have k0 := ho.k0
  have k1 := ho.k1
  clear hD ho
  unfold Opp.val
  go_enter Try.func10, Try.ntmps10
  go_wp2_with (first
    | (go_at_call 20; refine (pick_any _ _ _ (by assumption) (by assumption) (by decide) (by decide)).mono ?_; rintro e wz ⟨rfl, hw⟩; obtain rfl := hw.symm)
    | (go_at_call 18; refine (word_any b P L o.aa _ HD.out.1.own.bus HO.out.a0 HO.out.a1).mono ?_; rintro e v1 ⟨rfl, hb⟩; have HD1 : Hid (Duo w b P L r Q L v1) := HD.out.1.next hb; have bx := box_of (hb.block X.heap.size (by simp)); have x2 := bx.c2; clear hb bx HD)
    | (go_at_call 35; refine (rword_any r Q L o.aa _ HD1.out.ref HO.out.a0 HO.out.a1).mono ?_; rintro e v2 ⟨rfl, hw⟩; obtain rfl := hw.symm))
  go_ret
  exact ⟨by simp, P, L, Q, HD1.out⟩
end Go.Proofs.Ytbkkjnafnckleaa
