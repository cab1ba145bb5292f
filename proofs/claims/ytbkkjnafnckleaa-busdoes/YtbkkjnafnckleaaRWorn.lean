/-
  A worn disk refuses what the document's bus would write.
-/
import Derived.Test.YtbkkjnafnckleaaRMoveW
namespace Go.Proofs.Ytbkkjnafnckleaa
open Go.ChangeShapes Go.WideShapes Go.ChangeAt Go.RowKit
attribute [local go_sem ↓] loadSec_seal storeSec_seal eqlSec_seal zeroSec
attribute [local go_sem] loadSec_run storeSec_run rowAt_at rowAt_old rowAt_drew rowAt_drewN roomSec_new roomAt_old roomAt_drew roomAt_drewN putSec_new putRow_past rowSec_put size_put putRow_drew putRow_drewN alloc_drewN setCell_drewN sec_size

set_option linter.unusedVariables false

set_option maxHeartbeats 1600000 in
set_option maxRecDepth 20000 in
theorem done_worn (r : Nat) (P : RPh) (L : Lg) (s o : Nat) (w : World) (h : RBus w r P L) (hs : L.sc = s) (hn : s < L.n) (hm : 4096 ≤ L.m) (ho : L.ad = o) (h4 : (o : Int) % 4 = 0) (h5 : (o : Int) ≤ 1047552) : Calls Try.prog 71 #[.pointer (some ⟨r, 0, none⟩), .int .u32 2] w fun e w' => e = .returned (.bool false) ∧ Below w.heap.size w w' := by
  have c1 := h.eight.c1
  have c5 := h.eight.c5
  have c6 := h.eight.c6
  have s1 := h.sc.2
  rw [hs] at c5 s1
  rw [ho] at c6
  have H : Hid (RBus w r P L) := h
  have n1 := h.dsk.n1
  have HN : Hid (s < P.R.n) := by show s < P.R.n; rw [h.dn]; exact hn
  have HMm : Hid (P.R.m = L.m) := h.dm
  have hs2 : decide ((P.R.n : Int) ≤ (s : Int)) = false := by have := HN.out; simp; omega
  have hp2 : ¬ (1047552 : Int) < (o : Int) := by omega
  have hp3 : decide ((1047552 : Int) < (o : Int)) = false := by simp; omega
  have hwr : IntKind.i64.wrap (s : Int) = s := wrapI (by omega) s1
  have hns : (s : Int) < (P.R.n : Int) := by have := HN.out; omega
  have hs3 : decide (P.R.n ≤ s) = false := by have := HN.out; simp; omega
  have hs4 : s < P.R.n := HN.out
  have hp4 : o ≤ 1047552 := by omega
  have hp5 : decide (1047552 < o) = false := by simp; omega
  have HO : Hid (L.ad = o ∧ L.sc = s) := ⟨ho, hs⟩
  clear h hs ho
  go_enter Try.func71, Try.ntmps71
  go_wp2
  go_quiet ((go_at_call 11; exact Calls.quiet_of_same (rsecs_any P.rd P.R _ (rep_drew H.out.dsk _))))
  go_wp2
  rw [h4]
  have H0 : Hid (WrRel w L.M o none 0 0 (w.drewN nq)) := ⟨⟨.inl ⟨rfl, rfl, rfl⟩, fun x hx => by cases hx⟩, fun x hx => (no_none2 x hx).elim, drewNB w nq⟩
  clear hs2 hs3 hs4 hns hp2 hp3 hp5 c1 c5 c6
  go_loopw [8, 9] (fun v i X => ∃ (k : Nat) (a : Option Addr) (c : Nat), k ≤ 1024 ∧ i = .int .i64 k ∧ v = .slice a k c ∧ WrRel w L.M o a c k X) (fun _ i _ => 1024 - (intOf i).toNat)
  case atStart => exact ⟨0, none, 0, by omega, rfl, rfl, H0.out⟩
  case round =>
    obtain ⟨k, a, c, hk, rfl, rfl, hX⟩ := hrel
    have HX : Hid (WrRel w L.M o a c k wr) := hX
    clear hX H0
    by_cases hlt : k < 1024
    · have k1 : (k : Int) < 1024 := by omega
      have k0 : (0 : Int) ≤ (k : Int) := by omega
      have HB : Hid (RBus wr r P L) := H.out.below HX.out.below
      have x6 : wr.cell? ⟨r, 6, none⟩ = some (.int .u32 (o : Int)) := by
        have e := HB.out.eight.c6
        rw [HO.out.1] at e
        exact e
      have k3 : IntKind.u32.wrap (k : Int) = k := by rw [wrap_u32]; omega
      have k4 : IntKind.u32.wrap ((o : Int) + (k : Int)) = (o : Int) + (k : Int) := by rw [wrap_u32]; omega
      have HOk : Hid ((o : Int) + (k : Int) = ((o + k : Nat) : Int)) := by show _ = _; omega
      have hbb : Below wr.heap.size wr (wr.alloc (.cells #[.int .u8 (L.M (o + k))] 5)) := (Below.refl _ wr).alloc (Nat.le_refl _) _
      have hrow : SRow (wr.alloc (.cells #[.int .u8 (L.M (o + k))] 5)) a c (memL L.M o k) := HX.out.row.same fun x hx => hbb.block x (HX.out.own x hx).2
      obtain ⟨a', c', w3, hr3, hS3, ht3, ha3, hl3⟩ := srow_append hrow 35 35 _ [L.M (o + k)] (src_byte2 wr (L.M (o + k)) 5 _ rfl) (by intro y hy; simp at hy; subst hy; exact HB.out.byte _ (by omega)) (by rw [memL_len]; simp; omega)
      rw [memL_len] at hr3
      have HR3 : Hid _ := hr3
      have HX3 : Hid (WrRel w L.M o a' c' (k + 1) w3) := by
        have hw : Below w.heap.size w (wr.alloc (.cells #[.int .u8 (L.M (o + k))] 5)) := HX.out.below.trans (hbb.mono HX.out.below.size)
        refine ⟨by rw [← memL_next]; exact hS3, fun x hx => ⟨?_, hl3 x hx⟩, hw.trans (ht3.below hw.size fun x hx => (HX.out.own x hx).1)⟩
        rcases ha3 x hx with e | e
        · exact (HX.out.own x e).1
        · exact Nat.le_trans hw.size e
      clear hbb hrow hr3 hS3 ht3 ha3 hl3
      go_wp2_with (first
        | (go_at_call 50; refine (byteAt_is r P L (o + k) _ _ HB.out HOk.out (by omega)).mono ?_; rintro e w2 ⟨rfl, hw⟩; obtain rfl := hw.symm)
        | (at_builtin; refine wpList_append_eq rfl _ _ _ _ rfl _ _ _ _ rfl rfl HR3.out ?_))
      go_roundw
      case rel => exact ⟨k + 1, a', c', by omega, by go_num, by simp, HX3.out⟩
      case measure => simp [intOf]; omega
    · obtain rfl : k = 1024 := by omega
      have HB : Hid (RBus wr r P L) := H.out.below HX.out.below
      have x1 := HB.out.eight.c1
      have x5 := HB.out.eight.c5
      rw [HO.out.2] at x5
      have HRd : Hid (RdB wr a 1024 (fun i => (memL L.M o 1024).getD i 0)) := by
        have e := HX.out.row.rd (by rw [memL_len]; decide)
        rw [memL_len] at e
        exact e
      go_wp2
      have HE : Hid (¬ firstE (s : Int) P.R.n 1024 P.R.m = 0) := by
        have hmm : 4096 ≤ (P.R.m : Int) := by rw [HMm.out]; omega
        have hnn := HN.out
        have e : firstE (s : Int) P.R.n 1024 P.R.m = 33 := by
          unfold firstE placeE dataE wearE
          rw [if_neg (by omega : ¬ ((s : Int) < 0 ∨ (P.R.n : Int) ≤ (s : Int))), if_pos (show ((1024 : Nat) : Int) = 1024 from rfl), if_pos hmm]; rfl
        show ¬ firstE (s : Int) P.R.n 1024 P.R.m = 0
        rw [e]; decide
      have hE0 : (firstE (s : Int) P.R.n 1024 P.R.m == 0) = false := by simpa using HE.out
      go_region_with (go_at_call 73; refine (rwrite_bad P.rd P.R _ _ 1024 _ _ (HB.out.dsk.below ((Below.refl _ wr).drew)) HE.out).mono ?_; rintro e w4 ⟨rfl, hb4⟩)
      all_goals
        go_wp2
        go_ret
        exact ⟨rfl, HX.out.below.trans ((drewB hb4).mono HX.out.below.size)⟩
end Go.Proofs.Ytbkkjnafnckleaa
