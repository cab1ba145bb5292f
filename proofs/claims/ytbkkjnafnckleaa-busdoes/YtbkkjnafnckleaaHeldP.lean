/-
  A word is laid into both.
-/
import Derived.Test.YtbkkjnafnckleaaHeld
import Derived.Deep.RegionWith
import Derived.Deep.RegionHeld
namespace Go.Proofs.Ytbkkjnafnckleaa
open Go.ChangeShapes Go.WideShapes Go.ChangeAt Go.RowKit
attribute [local go_sem ↓] loadSec_seal storeSec_seal eqlSec_seal zeroSec
attribute [local go_sem] loadSec_run storeSec_run rowAt_at rowAt_old rowAt_drew rowAt_drewN roomSec_new roomAt_old roomAt_drew roomAt_drewN putSec_new putRow_past rowSec_put size_put putRow_drew putRow_drewN alloc_drewN setCell_drewN sec_size

set_option linter.unusedVariables false

set_option maxHeartbeats 1000000 in
theorem held_5 (w : World) (b r : Nat) (o : Opp) (X : World) (h : Same w b r X) (ho : o.Ok) (hk : pickI o.k 6 = 5) : Calls Try.prog 10 #[.pointer (some ⟨b, 0, none⟩), .pointer (some ⟨r, 0, none⟩), o.val] X fun e Y => e = .returned (.bool true) ∧ Same w b r Y := by
  obtain ⟨P, L, Q, hD⟩ := h
  have hb0 : Below X.heap.size X (X.alloc (boxO o)).drew := ((Below.refl _ X).alloc (Nat.le_refl _) _).drew
  have HD : Hid (Duo w b P L r Q L (X.alloc (boxO o)).drew) := hD.next hb0
  have HX : Hid (∀ Y P' L', Stp (X.alloc (boxO o)).drew b P Y P' L' → BoxC Y X.heap.size o) := fun Y P' L' hS => box_of ((hD.cellB (Z := (X.alloc (boxO o)).drew) (Nat.le_refl _) hb0 (by simp) hS).trans rfl)
  have hfe : (isW o.aa == isW o.aa) = true := by simp
  have HY : Hid (∀ Z V Q' K', Duo w b P { L with M := pokeM L.M o.aa o.av } r Q L Z → (Z.cell? ⟨X.heap.size, 2, none⟩ = some (.int .u32 o.aa) ∧ Z.cell? ⟨X.heap.size, 3, none⟩ = some (.int .u32 o.av)) → RStp Z r Q V Q' K' → (V.cell? ⟨X.heap.size, 2, none⟩ = some (.int .u32 o.aa) ∧ V.cell? ⟨X.heap.size, 3, none⟩ = some (.int .u32 o.av))) := fun Z V Q' K' hZ hz hS => by
    have e := hD.cellR (Z := Z) (Nat.le_refl _) (World.block_lt_of_cell? _ _ hz.1) hS
    exact ⟨(World.cell?_of_block e).trans hz.1, (World.cell?_of_block e).trans hz.2⟩
  have HO : Hid o.Ok := ho
  have k0 := ho.k0
  have k1 := ho.k1
  clear hD ho hb0
  unfold Opp.val
  unfold boxO at HD HX
  go_enter Try.func10, Try.ntmps10
  go_wp2_with (go_at_call 20; refine (pick_any _ _ _ (by assumption) (by assumption) (by decide) (by decide)).mono ?_; rintro e wz ⟨rfl, hw⟩; obtain rfl := hw.symm)
  have s0 : ((X.alloc (.cells #[.int .i64 o.k, .int .i64 o.ak, .int .u32 o.aa, .int .u32 o.av, .string o.s] 34)).drew).cell? ⟨X.heap.size, 2, none⟩ = some (.int .u32 o.aa) ∧ ((X.alloc (.cells #[.int .i64 o.k, .int .i64 o.ak, .int .u32 o.aa, .int .u32 o.av, .string o.s] 34)).drew).cell? ⟨X.heap.size, 3, none⟩ = some (.int .u32 o.av) := by simp
  first | (go_region_held (fun Y => Y.cell? ⟨X.heap.size, 2, none⟩ = some (.int .u32 o.aa) ∧ Y.cell? ⟨X.heap.size, 3, none⟩ = some (.int .u32 o.av)) (first | assumption | (simp; done)) (first
    | (go_at_call 23; refine (poke_any b P L o.aa o.av _ HD.out.own.bus HO.out.a0 HO.out.a1).mono ?_; rintro e v1 ⟨rfl, hS⟩; have HD1 : Hid (Duo w b P { L with M := pokeM L.M o.aa o.av } r Q L v1) := HD.out.stepB hS; have s1 : v1.cell? ⟨X.heap.size, 2, none⟩ = some (.int .u32 o.aa) ∧ v1.cell? ⟨X.heap.size, 3, none⟩ = some (.int .u32 o.av) := ⟨(HX.out _ _ _ hS).c2, (HX.out _ _ _ hS).c3⟩; clear hS)
    | (go_at_call 36; refine (rpoke_any r Q L o.aa o.av _ HD1.out.ref HO.out.a0 HO.out.a1 HO.out.v0 HO.out.v1).mono ?_; rintro e v2 ⟨rfl, hS⟩; have HD2 : Hid (Same w b r v2) := ⟨P, _, Q, HD1.out.stepR hS⟩; have s2 : v2.cell? ⟨X.heap.size, 2, none⟩ = some (.int .u32 o.aa) ∧ v2.cell? ⟨X.heap.size, 3, none⟩ = some (.int .u32 o.av) := HY.out _ _ _ _ HD1.out s1 hS; clear hS))) | fail
  all_goals
    go_wp2
    go_ret
    exact ⟨by first | rfl | simp, HD2.out⟩
end Go.Proofs.Ytbkkjnafnckleaa
