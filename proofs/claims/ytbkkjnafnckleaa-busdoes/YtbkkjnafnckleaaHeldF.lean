/-
  Both buses are fed.
-/
import Derived.Test.YtbkkjnafnckleaaHeld
import Derived.Deep.RegionWith
namespace Go.Proofs.Ytbkkjnafnckleaa
open Go.ChangeShapes Go.WideShapes Go.ChangeAt Go.RowKit
attribute [local go_sem ↓] loadSec_seal storeSec_seal eqlSec_seal zeroSec
attribute [local go_sem] loadSec_run storeSec_run rowAt_at rowAt_old rowAt_drew rowAt_drewN roomSec_new roomAt_old roomAt_drew roomAt_drewN putSec_new putRow_past rowSec_put size_put putRow_drew putRow_drewN alloc_drewN setCell_drewN sec_size

set_option linter.unusedVariables false

def feedE (L : Lg) (s : ByteArray) : Int := if s.size + L.I.length ≤ 65536 then 0 else 40
def Lg.fed (L : Lg) (s : ByteArray) : Lg := if s.size + L.I.length ≤ 65536 then { L with I := L.I ++ bytesL s } else L
theorem feed_any (b : Nat) (P : Ph) (L : Lg) (s : ByteArray) (w : World) (h : Bus w b P L) (hs : s.size ≤ maxLen) : Calls Try.prog 19 #[.pointer (some ⟨b, 0, none⟩), .string s] w fun e w' => e = .returned (.int .i64 (feedE L s)) ∧ ∃ P', Stp w b P w' P' (L.fed s) := by
  unfold feedE Lg.fed
  by_cases hf : s.size + L.I.length ≤ 65536
  · rw [if_pos hf, if_pos hf]; exact feed_ok b P L s w h hf
  · rw [if_neg hf, if_neg hf]; exact (feed_full b P L s w h hs (by omega)).mono fun e w' ⟨he, hw⟩ => ⟨he, P, by rw [hw]; exact Stp.refl h⟩
theorem rfeed_any (r : Nat) (P : RPh) (L : Lg) (s : ByteArray) (w : World) (h : RBus w r P L) (hs : s.size ≤ maxLen) : Calls Try.prog 31 #[.pointer (some ⟨r, 0, none⟩), .string s] w fun e w' => e = .returned (.int .i64 (feedE L s)) ∧ ∃ P', RStp w r P w' P' (L.fed s) := by
  unfold feedE Lg.fed
  by_cases hf : s.size + L.I.length ≤ 65536
  · rw [if_pos hf, if_pos hf]; exact rfeed_ok r P L s w h hf
  · rw [if_neg hf, if_neg hf]; exact (rfeed_full r P L s w h hs (by omega)).mono fun e w' ⟨he, hw⟩ => ⟨he, P, by rw [hw]; exact RStp.refl h⟩
set_option maxHeartbeats 1000000 in
theorem held_1 (w : World) (b r : Nat) (o : Opp) (X : World) (h : Same w b r X) (ho : o.Ok) (hk : pickI o.k 6 = 1) : Calls Try.prog 10 #[.pointer (some ⟨b, 0, none⟩), .pointer (some ⟨r, 0, none⟩), o.val] X fun e Y => e = .returned (.bool true) ∧ Same w b r Y := by
  obtain ⟨P, L, Q, hD⟩ := h
  have hb0 : Below X.heap.size X (X.alloc (boxO o)).drew := ((Below.refl _ X).alloc (Nat.le_refl _) _).drew
  have HD : Hid (Duo w b P L r Q L (X.alloc (boxO o)).drew) := hD.next hb0
  have HX : Hid (∀ Y P' L', Stp (X.alloc (boxO o)).drew b P Y P' L' → BoxC Y X.heap.size o) := fun Y P' L' hS => box_of ((hD.cellB (Z := (X.alloc (boxO o)).drew) (Nat.le_refl _) hb0 (by simp) hS).trans rfl)
  have HO : Hid o.Ok := ho
  have k0 := ho.k0
  have k1 := ho.k1
  clear hD ho hb0
  have hfe : (feedE L o.s == feedE L o.s) = true := by simp
  unfold Opp.val
  unfold boxO at HD HX
  go_enter Try.func10, Try.ntmps10
  go_wp2_with (go_at_call 20; refine (pick_any _ _ _ (by assumption) (by assumption) (by decide) (by decide)).mono ?_; rintro e wz ⟨rfl, hw⟩; obtain rfl := hw.symm)
  go_region_with (first
    | (go_at_call 19; refine (feed_any b P L o.s _ HD.out.own.bus HO.out.s1).mono ?_; rintro e v1 ⟨rfl, P1, hS⟩; have HD1 : Hid (Duo w b P1 (L.fed o.s) r Q L v1) := HD.out.stepB hS; have x4 := (HX.out _ _ _ hS).c4; clear hS)
    | (go_at_call 31; refine (rfeed_any r Q L o.s _ HD1.out.ref HO.out.s1).mono ?_; rintro e v2 ⟨rfl, Q1, hS⟩; have HD2 : Hid (Same w b r v2) := ⟨P1, _, Q1, HD1.out.stepR hS⟩; clear hS))
  all_goals
    go_wp2
    go_ret
    exact ⟨by first | rfl | simp, HD2.out⟩
end Go.Proofs.Ytbkkjnafnckleaa
