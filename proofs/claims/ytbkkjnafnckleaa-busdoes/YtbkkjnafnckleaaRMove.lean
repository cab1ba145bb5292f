/-
  A command of the document's bus that is done, or that its disk refuses.
-/
import Derived.Test.YtbkkjnafnckleaaRDone
namespace Go.Proofs.Ytbkkjnafnckleaa
open Go.ChangeShapes Go.WideShapes Go.ChangeAt Go.RowKit
attribute [local go_sem ↓] loadSec_seal storeSec_seal eqlSec_seal zeroSec
attribute [local go_sem] loadSec_run storeSec_run rowAt_at rowAt_old rowAt_drew rowAt_drewN roomSec_new roomAt_old roomAt_drew roomAt_drewN putSec_new putRow_past rowSec_put size_put putRow_drew putRow_drewN alloc_drewN setCell_drewN sec_size

set_option linter.unusedVariables false

/-- Memory, with the first k bytes of a sector laid. -/
def layK (M : Nat → Int) (o : Nat) (f : Nat → Int) (k i : Nat) : Int := if o ≤ i ∧ i < o + k then f (i - o) else M i
theorem layK0 (M : Nat → Int) (o : Nat) (f : Nat → Int) : layK M o f 0 = M := by
  funext i; unfold layK; rw [if_neg (by omega)]
theorem layK_next (M : Nat → Int) (o : Nat) (f : Nat → Int) (k : Nat) : upd (layK M o f k) (o + k) (f k) = layK M o f (k + 1) := by
  funext i
  by_cases e : i = o + k
  · subst e; rw [upd_at]; unfold layK; rw [if_pos (by omega), show o + k - o = k by omega]
  · rw [upd_ne _ _ e]; unfold layK
    by_cases c : o ≤ i ∧ i < o + k
    · rw [if_pos c, if_pos (by omega)]
    · rw [if_neg c, if_neg (by omega)]
theorem layK_all (M : Nat → Int) (o : Nat) (f : Nat → Int) : layK M o f 1024 = layM M o f := rfl
theorem strF_size (f : Nat → Int) (n : Nat) : (strF f n).size = n := by unfold strF; rw [strOfNums_size]; simp
theorem strF_at (f : Nat → Int) {n k : Nat} (hk : k < n) (hf : 0 ≤ f k ∧ f k ≤ 255) (h : k < (strF f n).size) : (((strF f n)[k]'h).toNat : Int) = f k := by
  have e : (strF f n).data.toList[k]? = some ((strF f n)[k]'h) := by
    have : k < (strF f n).data.toList.length := by simpa using h
    rw [List.getElem?_eq_getElem this]; rfl
  unfold strF at e
  rw [strOfNums_data] at e
  simp only [List.getElem?_map, List.getElem?_range hk, Option.map_some] at e
  have e := Option.some.inj e
  have e2 : ((strF f n)[k]'h) = UInt8.ofNat (f k).toNat := e.symm
  rw [e2, UInt8.toNat_ofNat']
  omega
theorem lay_is (r : Nat) (P : RPh) (L : Lg) (a : Nat) (c x d : Int) (w : World) (h : RBus w r P L) (hx : x = (a : Int)) (hd : d = c) (ha : a < 1048576) (c0 : 0 ≤ c) (c1 : c ≤ 255) : Calls Try.prog 51 #[.pointer (some ⟨r, 0, none⟩), .int .u32 x, .int .u8 d] w fun e w' => e = .returned (.tuple #[]) ∧ RStp w r P w' P { L with M := upd L.M a c } := by
  subst hx hd
  exact lay_any r P L a d w h ha c0 c1
structure RdRel (w : World) (r : Nat) (P : RPh) (L : Lg) (o : Nat) (f : Nat → Int) (k : Nat) (X : World) : Prop where
  stp : RStp w r P X P { L with M := layK L.M o f k }
set_option maxHeartbeats 1600000 in
set_option maxRecDepth 20000 in
theorem done_read (r : Nat) (P : RPh) (L : Lg) (s o : Nat) (w : World) (h : RBus w r P L) (hs : L.sc = s) (hn : s < L.n) (ho : L.ad = o) (h4 : (o : Int) % 4 = 0) (h5 : (o : Int) ≤ 1047552) : Calls Try.prog 71 #[.pointer (some ⟨r, 0, none⟩), .int .u32 1] w fun e w' => e = .returned (.bool true) ∧ RStp w r P w' P { L with M := layM L.M o (L.S s) } := by
  have c1 := h.eight.c1
  have c5 := h.eight.c5
  have c6 := h.eight.c6
  have s1 := h.sc.2
  rw [hs] at c5 s1
  rw [ho] at c6
  have H : Hid (RBus w r P L) := h
  have n1 := h.dsk.n1
  have HN : Hid (s < P.R.n) := by show s < P.R.n; rw [h.dn]; exact hn
  have hs2 : decide ((P.R.n : Int) ≤ (s : Int)) = false := by have := HN.out; simp; omega
  have hp2 : ¬ (1047552 : Int) < (o : Int) := by omega
  have hp3 : decide ((1047552 : Int) < (o : Int)) = false := by simp; omega
  have hwr : IntKind.i64.wrap (s : Int) = s := wrapI (by omega) s1
  have HS : Hid (lastR P.R P.R.m s = strF (L.S s) 1024 ∧ ByteF (L.S s)) := ⟨by rw [h.dm]; exact h.dS s hn, h.dB s hn⟩
  have hns : (s : Int) < (P.R.n : Int) := by have := HN.out; omega
  have hs3 : decide (P.R.n ≤ s) = false := by have := HN.out; simp; omega
  have hs4 : s < P.R.n := HN.out
  have hp4 : o ≤ 1047552 := by omega
  have hp5 : decide (1047552 < o) = false := by simp; omega
  have HO : Hid (L.ad = o) := ho
  clear h hs ho
  go_enter Try.func71, Try.ntmps71
  go_wp2
  go_quiet ((go_at_call 11; exact Calls.quiet_of_same (rsecs_any P.rd P.R _ (rep_drew H.out.dsk _))))
  go_wp2
  have d1 : (w.drewN nq).cell? ⟨r, 1, none⟩ = some (.pointer (some ⟨P.rd, 0, none⟩)) := c1
  go_region_with (go_at_call 12; refine (rread_good P.rd P.R s _ ((rep_drew H.out.dsk nq).below ((Below.refl _ _).drew)) HN.out).mono ?_; rw [HS.out.1]; rintro e w1 ⟨rfl, hb⟩)
  all_goals
    have hbw : Below w.heap.size w w1 := (drewNB w nq).trans ((Below.refl _ (w.drewN nq)).drew.trans hb)
    have H0 : Hid (RdRel w r P L o (L.S s) 0 w1) := ⟨by rw [layK0]; exact RStp.below H.out hbw⟩
    have hsz := strF_size (L.S s) 1024
    have HST : Hid (∀ k, k < 1024 → ∀ h, (((strF (L.S s) 1024)[k]'h).toNat : Int) = L.S s k ∧ 0 ≤ L.S s k ∧ L.S s k ≤ 255) := fun k hk h => ⟨strF_at _ hk (HS.out.2 k hk) h, HS.out.2 k hk⟩
    clear hb hbw hs2 hs3 hs4 hns hp2 hp3 hp5 c1 c5 c6 d1
    obtain ⟨S, hSe⟩ : ∃ S, S = strF (L.S s) 1024 := ⟨_, rfl⟩
    rw [← hSe] at hsz HST
    go_wp2
    rw [← hSe]
    clear hSe
    go_loopw [7] (fun i X => ∃ k : Nat, k ≤ 1024 ∧ i = .int .i64 k ∧ RdRel w r P L o (L.S s) k X) (fun i _ => 1024 - (intOf i).toNat)
    case atStart => exact ⟨0, by omega, rfl, H0.out⟩
    case round =>
      obtain ⟨k, hk, rfl, hX⟩ := hrel
      have HX : Hid (RdRel w r P L o (L.S s) k wr) := hX
      clear hX H0
      by_cases hlt : k < 1024
      · have k1 : (k : Int) < 1024 := by omega
        have k0 : (0 : Int) ≤ (k : Int) := by omega
        have k2 : k < S.size := by omega
        have HV := HST.out k hlt k2
        have x6 : wr.cell? ⟨r, 6, none⟩ = some (.int .u32 (o : Int)) := by
          have e := HX.out.stp.bus.eight.c6
          rw [HO.out] at e
          exact e
        have k3 : IntKind.u32.wrap (k : Int) = k := by rw [wrap_u32]; omega
        have k4 : IntKind.u32.wrap ((o : Int) + (k : Int)) = (o : Int) + (k : Int) := by rw [wrap_u32]; omega
        have HOk : Hid ((o : Int) + (k : Int) = ((o + k : Nat) : Int)) := by show _ = _; omega
        go_wp2
        go_region_with (go_at_call 51; refine (lay_is r P { L with M := layK L.M o (L.S s) k } (o + k) (L.S s k) _ _ _ (HX.out.stp.bus.below ((Below.refl _ wr).drew)) HOk.out rfl (by omega) HV.2.1 HV.2.2).mono ?_; rintro e w2 ⟨rfl, hS2⟩; have HX2 : Hid (RdRel w r P L o (L.S s) (k + 1) w2) := ⟨by have e := (HX.out.stp.trans (RStp.below HX.out.stp.bus ((Below.refl _ wr).drew))).trans hS2; rw [layK_next] at e; exact e⟩; clear hS2)
        all_goals
          go_wp2
          go_roundw
          case rel => exact ⟨k + 1, by omega, by go_num, HX2.out⟩
          case measure => simp [intOf]; omega
      · obtain rfl : k = 1024 := by omega
        go_wp2
        go_ret
        exact ⟨rfl, HX.out.stp⟩
end Go.Proofs.Ytbkkjnafnckleaa
