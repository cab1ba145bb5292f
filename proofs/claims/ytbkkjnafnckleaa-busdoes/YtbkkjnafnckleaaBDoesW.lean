/-
  The law on a bus's doings, where there is one.
-/
import Derived.Test.YtbkkjnafnckleaaBDoesA
namespace Go.Proofs.Ytbkkjnafnckleaa
open Go.ChangeShapes Go.WideShapes Go.ChangeAt Go.RowKit
attribute [local go_sem ↓] loadSec_seal storeSec_seal eqlSec_seal zeroSec
attribute [local go_sem] loadSec_run storeSec_run rowAt_at rowAt_old rowAt_drew rowAt_drewN roomSec_new roomAt_old roomAt_drew roomAt_drewN putSec_new putRow_past rowSec_put size_put putRow_drew putRow_drewN alloc_drewN setCell_drewN sec_size

set_option linter.unusedVariables false
namespace busDoes
set_option maxHeartbeats 8000000 in
set_option maxRecDepth 20000 in
theorem walk_some (a : Option Addr) (len cap N : Nat) (f : Nat → Int) (oa : Option Addr) (ol oc : Nat) (g : Nat → Opp) (w : World) (n0 : 8 ≤ N) (n1 : N ≤ 1024) (hr : RdW w a len f) (hlen : len ≤ 35184372087808) (hl : len ≤ 262144) (ho : RdOp w oa ol g) : Calls Try.prog 3 #[.slice a len cap, .int .i64 N, .slice oa ol oc] w fun e w' => e = .returned (.bool true) ∧ Below w.heap.size w w' := by
  have hlm : (ol : Int) ≤ 9223372036854775807 := by have := ho.1; unfold maxLen at this; omega
  have HC : Hid (RdOp w oa ol g) := ho
  have HR : Hid (RdW w a len f) := hr
  clear ho hr
  go_enter Try.func3, Try.ntmps3
  go_wp2_with (first
    | (go_at_call 7; refine (shown_any _).mono ?_; rintro e w1 ⟨rfl, b1⟩; have H1 : Hid (Below w.heap.size w w1) := b1; clear b1)
    | (go_at_call 8; refine (nothing_any _).mono ?_; rintro e w2 ⟨rfl, b2⟩; have H2 : Hid (Below w.heap.size w w2) := H1.out.trans (b2.mono H1.out.size); clear b2)
    | (go_at_call 9; refine (pair_ok a len cap N f _ n0 n1 (HR.out.below H2.out) hlen hl).mono ?_; rintro e w3 ⟨b, r, rfl, hS⟩; have H3 : Hid (Same w b r w3) := hS.base H2.out; clear hS))
  go_loopw [11, 12] (fun o i X => ∃ k : Nat, k ≤ ol ∧ i = .int .i64 k ∧ o = .bool true ∧ Same w b r X) (fun _ i _ => ol - (intOf i).toNat)
  case atStart => exact ⟨0, by omega, rfl, by simp, H3.out⟩
  case round =>
    obtain ⟨k, hk, rfl, rfl, hS⟩ := hrel
    have HS : Hid (Same w b r wr) := hS
    clear H3
    by_cases hlt : k < ol
    · obtain ⟨gb, off, rfl, ok, c0, c1, c2, c3, c4⟩ := HC.out.at hS.below hlt
      have HOk : Hid _ := ok
      have q0 : (0 : Int) ≤ (k : Int) := by omega
      have q1 : (k : Int) < (ol : Int) := by omega
      clear hS ok HC
      go_wp2_with (go_at_call 10; refine (held_any w b r (g k) _ HS.out HOk.out).mono ?_; rintro e w4 ⟨rfl, hS4⟩; have H4 : Hid (Same w b r w4) := hS4; clear hS4)
      go_roundw
      case rel => exact ⟨k + 1, by omega, by go_num, rfl, H4.out⟩
      case measure => simp [intOf]; omega
    · have q1 : ¬ (k : Int) < (ol : Int) := by omega
      obtain ⟨P, L, Q, hD⟩ := hS
      have HD : Hid (Duo w b P L r Q L wr) := hD
      have hn1 : L.n ≤ 1024 := by rw [← hD.own.bus.dn]; exact hD.own.bus.dsk.n1
      clear hD HS HC HR
      go_wp2
      go_loopw [13, 14] (fun v i X => ∃ k c : Nat, ∃ a, k ≤ L.n ∧ i = .int .i64 k ∧ v = .slice a (k * 1024) c ∧ ImgRel w b P L r Q a c k X) (fun _ i _ => L.n - (intOf i).toNat)
      case atStart => exact ⟨0, 0, none, by omega, rfl, by simp, ImgRel.start HD.out⟩
      case round =>
        clear HD hlt q1 hk
        obtain ⟨k2, c, ia, hk2, rfl, rfl, hI⟩ := hrel
        have HI : Hid (ImgRel w b P L r Q ia c k2 wr) := hI
        have r1 := hI.duo.ref.eight.c1
        by_cases hlt2 : k2 < L.n
        · have z0 : (0 : Int) ≤ (k2 : Int) := by omega
          have z1 : (k2 : Int) < (L.n : Int) := by omega
          clear hI
          go_wp2_with (first
            | (go_at_call 11; refine (rsecs_any Q.rd Q.R _ HI.out.duo.ref.dsk).mono ?_; rintro e v1 ⟨he, hw⟩; obtain rfl := hw.symm; rw [HI.out.duo.ref.dn] at he; obtain rfl := he)
            | (go_at_call 12; refine (rread_good Q.rd Q.R k2 _ HI.out.duo.ref.dsk (by rw [HI.out.duo.ref.dn]; exact hlt2)).mono ?_; rintro e v2 ⟨he, hb⟩; rw [HI.out.duo.ref.dm, HI.out.duo.ref.dS k2 hlt2] at he; obtain rfl := he; obtain ⟨a', c', v3, hr3, hI3⟩ := (HI.out.next hb).grow hlt2; have HA : Hid ((Builtin.append_ #[35, 9] 35 #[.slice ia (k2 * 1024) c, .string (strF (L.S k2) 1024)]).run Try.prog v2 = .ok (.slice a' ((k2 + 1) * 1024) c') v3) := hr3; have HI3 : Hid (ImgRel w b P L r Q a' c' (k2 + 1) v3) := hI3; clear hr3 hI3 hb)
            | (at_builtin; refine wpList_append_eq rfl _ _ _ _ rfl _ _ _ _ rfl rfl HA.out ?_))
          go_roundw
          case rel => exact ⟨k2 + 1, c', a', by omega, by go_num, rfl, HI3.out⟩
          case measure => simp [intOf]; omega
        · have hkn : k2 = L.n := by omega
          subst hkn
          have z1 : ¬ (L.n : Int) < (L.n : Int) := by omega
          clear hI
          go_wp2_with (first
            | (go_at_call 11; refine (rsecs_any Q.rd Q.R _ HI.out.duo.ref.dsk).mono ?_; rintro e v1 ⟨he, hw⟩; obtain rfl := hw.symm; rw [HI.out.duo.ref.dn] at he; obtain rfl := he))
          have HK : Hid (∀ X, Below wr.heap.size wr X → (convert 35 9 (.slice ia (L.n * 1024) c)).run Try.prog X = .ok (.string (strF (imgF L.S) (L.n * 1024))) X) := fun X hX => (HI.out.next hX).str
          have s0 : (convert 35 9 (.slice ia (L.n * 1024) c)).run Try.prog wr.drew = .ok (.string (strF (imgF L.S) (L.n * 1024))) wr.drew := HK.out _ ((Below.refl _ wr).drew)
          have HOk : Hid (Opp.Ok ⟨3, 0, 0, 0, ⟨#[]⟩⟩) := ⟨by decide, by decide, by decide, by decide, by decide, by decide, by decide⟩
          first | (go_region_held (fun X => (convert 35 9 (.slice ia (L.n * 1024) c)).run Try.prog X = .ok (.string (strF (imgF L.S) (L.n * 1024))) X) (first | assumption | exact HK.out _ ((Below.refl _ wr).drew)) (first
            | (go_at_call 10; refine (held_looks w b r ⟨3, 0, 0, 0, ⟨#[]⟩⟩ P L Q _ (HI.out.duo.next (Below.refl _ wr).drew) HOk.out (by decide)).mono ?_; rintro e v4 ⟨rfl, hb0⟩; have hb : Below wr.heap.size wr v4 := (Below.refl _ wr).drew.trans hb0; have H4 : Hid (Below wr.heap.size wr v4 ∧ ImgRel w b P L r Q ia c L.n v4) := ⟨hb, HI.out.next hb⟩; have s4 := HK.out v4 hb; clear hb hb0)
            | (go_at_call 13; refine (disk_any b P L _ H4.out.2.duo.own.bus).mono ?_; rintro e v5 ⟨rfl, hw⟩; obtain rfl := hw.symm)
            | (go_at_call 14; refine (image_any P.db P.D _ H4.out.2.duo.own.bus.dsk).mono ?_; rintro e v6 ⟨gi, ci, he, hri, _, _, hb⟩; rw [H4.out.2.duo.own.bus.dn] at he hri; rw [H4.out.2.duo.own.bus.dS] at hri; obtain rfl := he; have hq := conv_str ci hri; have s6 := HK.out v6 (H4.out.1.trans (hb.mono H4.out.1.size)); have H6 : Hid (Below w.heap.size w v6) := by { have e1 := H4.out.2.duo.own.below; exact e1.trans (hb.mono e1.size) }; clear hri hb))) | fail
          all_goals
            go_wp2
            go_ret
            exact ⟨by first | rfl | simp, H6.out⟩
end busDoes
end Go.Proofs.Ytbkkjnafnckleaa
