/-
  A command of the document's bus that is done, or that its disk refuses.
  A sector is written by the document's bus.
  A worn disk refuses what the document's bus would write.
-/
import Derived.Test.YteegkhnikcioiaaGreatDoorMRDone
namespace Go.Proofs.YteegkhnikcioiaaGreatDoor
open Go.ChangeShapes Go.WideShapes Go.ChangeAt Go.RowKit
attribute [local go_sem ↓] loadSec_seal storeSec_seal eqlSec_seal zeroSec
attribute [local go_sem] loadSec_run storeSec_run rowAt_at rowAt_old rowAt_drew rowAt_drewN roomSec_new roomAt_old roomAt_drew roomAt_drewN putSec_new putRow_past rowSec_put size_put putRow_drew putRow_drewN alloc_drewN setCell_drewN sec_size

set_option linter.unusedVariables false

/-- Memory, with the first k bytes of a sector laid. -/
def layK (M : Nat → Int) (o : Nat) (f : Nat → Int) (k i : Nat) : Int := if o ≤ i ∧ i < o + k then f (i - o) else M i
theorem layK0 (M : Nat → Int) (o : Nat) (f : Nat → Int) : layK M o f 0 = M := by
  funext i; unfold layK; rw [if_neg (by omega)]
theorem layK_next (M : Nat → Int) (o : Nat) (f : Nat → Int) (k : Nat) : upd (layK M o f k) (o + k) (f k) = layK M o f (k + 1) := by
  funext i
  by_cases e : i = o + k
  · subst e; rw [upd_at]; unfold layK; rw [if_pos (by omega), show o + k - o = k by omega]
  · rw [upd_ne _ _ e]; unfold layK
    by_cases c : o ≤ i ∧ i < o + k
    · rw [if_pos c, if_pos (by omega)]
    · rw [if_neg c, if_neg (by omega)]
theorem layK_all (M : Nat → Int) (o : Nat) (f : Nat → Int) : layK M o f 1024 = layM M o f := rfl
theorem strF_size (f : Nat → Int) (n : Nat) : (strF f n).size = n := by unfold strF; rw [strOfNums_size]; simp
theorem strF_at (f : Nat → Int) {n k : Nat} (hk : k < n) (hf : 0 ≤ f k ∧ f k ≤ 255) (h : k < (strF f n).size) : (((strF f n)[k]'h).toNat : Int) = f k := by
  have e : (strF f n).data.toList[k]? = some ((strF f n)[k]'h) := by
    have : k < (strF f n).data.toList.length := by simpa using h
    rw [List.getElem?_eq_getElem this]; rfl
  unfold strF at e
  rw [strOfNums_data] at e
  simp only [List.getElem?_map, List.getElem?_range hk, Option.map_some] at e
  have e := Option.some.inj e
  have e2 : ((strF f n)[k]'h) = UInt8.ofNat (f k).toNat := e.symm
  rw [e2, UInt8.toNat_ofNat']
  omega
theorem lay_is (r : Nat) (P : RPh) (L : Lg) (a : Nat) (c x d : Int) (w : World) (h : RBus w r P L) (hx : x = (a : Int)) (hd : d = c) (ha : a < 1048576) (c0 : 0 ≤ c) (c1 : c ≤ 255) : Calls Tryz.prog 89 #[.pointer (some ⟨r, 0, none⟩), .int .u32 x, .int .u8 d] w fun e w' => e = .returned (.tuple #[]) ∧ RStp w r P w' P { L with M := upd L.M a c } := by
  subst hx hd
  exact lay_any r P L a d w h ha c0 c1
structure RdRel (w : World) (r : Nat) (P : RPh) (L : Lg) (o : Nat) (f : Nat → Int) (k : Nat) (X : World) : Prop where
  stp : RStp w r P X P { L with M := layK L.M o f k }
set_option maxHeartbeats 1600000 in
set_option maxRecDepth 20000 in
theorem done_read (r : Nat) (P : RPh) (L : Lg) (s o : Nat) (w : World) (h : RBus w r P L) (hs : L.sc = s) (hn : s < L.n) (ho : L.ad = o) (h4 : (o : Int) % 4 = 0) (h5 : (o : Int) ≤ 1047552) : Calls Tryz.prog 114 #[.pointer (some ⟨r, 0, none⟩), .int .u32 1] w fun e w' => e = .returned (.bool true) ∧ RStp w r P w' P { L with M := layM L.M o (L.S s) } := by
  have c1 := h.eight.c1
  have c5 := h.eight.c5
  have c6 := h.eight.c6
  have s1 := h.sc.2
  rw [hs] at c5 s1
  rw [ho] at c6
  have H : Hid (RBus w r P L) := h
  have n1 := h.dsk.n1
  have HN : Hid (s < P.R.n) := by show s < P.R.n; rw [h.dn]; exact hn
  have hs2 : decide ((P.R.n : Int) ≤ (s : Int)) = false := by have := HN.out; simp; omega
  have hp2 : ¬ (1047552 : Int) < (o : Int) := by omega
  have hp3 : decide ((1047552 : Int) < (o : Int)) = false := by simp; omega
  have hwr : IntKind.i64.wrap (s : Int) = s := wrapI (by omega) s1
  have HS : Hid (lastR P.R P.R.m s = strF (L.S s) 1024 ∧ ByteF (L.S s)) := ⟨by rw [h.dm]; exact h.dS s hn, h.dB s hn⟩
  have hns : (s : Int) < (P.R.n : Int) := by have := HN.out; omega
  have hs3 : decide (P.R.n ≤ s) = false := by have := HN.out; simp; omega
  have hs4 : s < P.R.n := HN.out
  have hp4 : o ≤ 1047552 := by omega
  have hp5 : decide (1047552 < o) = false := by simp; omega
  have HO : Hid (L.ad = o) := ho
  clear h hs ho
  go_enter Tryz.func114, Tryz.ntmps114
  go_wp2
  go_quiet ((go_at_call 113; exact Calls.quiet_of_same (rsecs_any P.rd P.R _ (rep_drew H.out.dsk _))))
  go_wp2
  have d1 : (w.drewN nq).cell? ⟨r, 1, none⟩ = some (.pointer (some ⟨P.rd, 0, none⟩)) := c1
  go_region_with (go_at_call 142; refine (rread_good P.rd P.R s _ ((rep_drew H.out.dsk nq).below ((Below.refl _ _).drew)) HN.out).mono ?_; rw [HS.out.1]; rintro e w1 ⟨rfl, hb⟩)
  all_goals
    have hbw : Below w.heap.size w w1 := (drewNB w nq).trans ((Below.refl _ (w.drewN nq)).drew.trans hb)
    have H0 : Hid (RdRel w r P L o (L.S s) 0 w1) := ⟨by rw [layK0]; exact RStp.below H.out hbw⟩
    have hsz := strF_size (L.S s) 1024
    have HST : Hid (∀ k, k < 1024 → ∀ h, (((strF (L.S s) 1024)[k]'h).toNat : Int) = L.S s k ∧ 0 ≤ L.S s k ∧ L.S s k ≤ 255) := fun k hk h => ⟨strF_at _ hk (HS.out.2 k hk) h, HS.out.2 k hk⟩
    clear hb hbw hs2 hs3 hs4 hns hp2 hp3 hp5 c1 c5 c6 d1
    obtain ⟨S, hSe⟩ : ∃ S, S = strF (L.S s) 1024 := ⟨_, rfl⟩
    rw [← hSe] at hsz HST
    go_wp2
    rw [← hSe]
    clear hSe
    go_loopw [7] (fun i X => ∃ k : Nat, k ≤ 1024 ∧ i = .int .i64 k ∧ RdRel w r P L o (L.S s) k X) (fun i _ => 1024 - (intOf i).toNat)
    case atStart => exact ⟨0, by omega, rfl, H0.out⟩
    case round =>
      obtain ⟨k, hk, rfl, hX⟩ := hrel
      have HX : Hid (RdRel w r P L o (L.S s) k wr) := hX
      clear hX H0
      by_cases hlt : k < 1024
      · have k1 : (k : Int) < 1024 := by omega
        have k0 : (0 : Int) ≤ (k : Int) := by omega
        have k2 : k < S.size := by omega
        have HV := HST.out k hlt k2
        have x6 : wr.cell? ⟨r, 6, none⟩ = some (.int .u32 (o : Int)) := by
          have e := HX.out.stp.bus.eight.c6
          rw [HO.out] at e
          exact e
        have k3 : IntKind.u32.wrap (k : Int) = k := by rw [wrap_u32]; omega
        have k4 : IntKind.u32.wrap ((o : Int) + (k : Int)) = (o : Int) + (k : Int) := by rw [wrap_u32]; omega
        have HOk : Hid ((o : Int) + (k : Int) = ((o + k : Nat) : Int)) := by show _ = _; omega
        go_wp2
        go_region_with (go_at_call 89; refine (lay_is r P { L with M := layK L.M o (L.S s) k } (o + k) (L.S s k) _ _ _ (HX.out.stp.bus.below ((Below.refl _ wr).drew)) HOk.out rfl (by omega) HV.2.1 HV.2.2).mono ?_; rintro e w2 ⟨rfl, hS2⟩; have HX2 : Hid (RdRel w r P L o (L.S s) (k + 1) w2) := ⟨by have e := (HX.out.stp.trans (RStp.below HX.out.stp.bus ((Below.refl _ wr).drew))).trans hS2; rw [layK_next] at e; exact e⟩; clear hS2)
        all_goals
          go_wp2
          go_roundw
          case rel => exact ⟨k + 1, by omega, by go_num, HX2.out⟩
          case measure => simp [intOf]; omega
      · obtain rfl : k = 1024 := by omega
        go_wp2
        go_ret
        exact ⟨rfl, HX.out.stp⟩
end Go.Proofs.YteegkhnikcioiaaGreatDoor

namespace Go.Proofs.YteegkhnikcioiaaGreatDoor
open Go.ChangeShapes Go.WideShapes Go.ChangeAt Go.RowKit
attribute [local go_sem ↓] loadSec_seal storeSec_seal eqlSec_seal zeroSec
attribute [local go_sem] loadSec_run storeSec_run rowAt_at rowAt_old rowAt_drew rowAt_drewN roomSec_new roomAt_old roomAt_drew roomAt_drewN putSec_new putRow_past rowSec_put size_put putRow_drew putRow_drewN alloc_drewN setCell_drewN sec_size

set_option linter.unusedVariables false

def memL (M : Nat → Int) (o k : Nat) : List Int := (List.range k).map (memF M o)
theorem memL_len (M : Nat → Int) (o k : Nat) : (memL M o k).length = k := by simp [memL]
theorem memL_next (M : Nat → Int) (o k : Nat) : memL M o k ++ [M (o + k)] = memL M o (k + 1) := by
  unfold memL; rw [List.range_succ, List.map_append]; rfl
theorem memL_at (M : Nat → Int) (o : Nat) {k i : Nat} (h : i < k) : (memL M o k).getD i 0 = memF M o i := by
  simp [memL, List.getD, h]
/-- The bytes of a sector, gathered so far, in a row of the call's own. -/
structure WrRel (w : World) (M : Nat → Int) (o : Nat) (a : Option Addr) (c k : Nat) (X : World) : Prop where
  row : SRow X a c (memL M o k)
  own : ∀ x, inB a x → w.heap.size ≤ x ∧ x < X.heap.size
  below : Below w.heap.size w X
theorem no_none2 (x : Nat) (h : inB none x) : False := by
  obtain ⟨p, hp, _⟩ := h
  cases hp
theorem last_to (R : Rk) (n : Nat) (s : ByteArray) (g c : Nat) (i : Nat) : ∀ k, k ≤ R.m → lastR (R.rowTo n s g c) k i = lastR R k i
  | 0, _ => rfl
  | k + 1, h => by
    show (if upd R.wn R.m n k = i then upd R.C R.m s k else lastR (R.rowTo n s g c) k i) = if R.wn k = i then R.C k else lastR R k i
    rw [upd_ne _ _ (by omega), upd_ne _ _ (by omega), last_to R n s g c i k (by omega)]
theorem last_to_next (R : Rk) (n : Nat) (s : ByteArray) (g c : Nat) (i : Nat) : lastR (R.rowTo n s g c) (R.m + 1) i = if n = i then s else lastR R R.m i := by
  show (if upd R.wn R.m n R.m = i then upd R.C R.m s R.m else lastR (R.rowTo n s g c) R.m i) = _
  rw [upd_at, upd_at, last_to R n s g c i R.m (Nat.le_refl _)]
theorem write_end {w w4 w5 : World} {r : Nat} {P : RPh} {L : Lg} {s o g c : Nat} {f : Nat → Int} (h : RBus w r P L) (hb : Below w.heap.size w w4) (hn : s < L.n) (ho : o + 1024 ≤ 1048576) (hf : ∀ i, i < 1024 → f i = memF L.M o i) (hR : RepR w5 P.rd (P.R.rowTo s (strF f 1024) g c)) (ht : Tou (P.R.mut P.rd) w4 w5) (hm : ∀ x, (P.R.rowTo s (strF f 1024) g c).mut P.rd x → P.R.mut P.rd x ∨ w4.heap.size ≤ x) : ∃ P', RStp w r P w5 P' { L with S := upd L.S s (memF L.M o), m := L.m + 1 } := by
  have h4 := h.below hb
  refine ⟨_, (RStp.below h hb).trans (rdisk_end (S' := upd L.S s (memF L.M o)) (m' := L.m + 1) h4 hR h.dn (by show P.R.m + 1 = L.m + 1; rw [h.dm]) (fun i hi => ?_) (fun i hi => ?_) ht hm)⟩
  · rw [← h.dm, last_to_next]
    by_cases e : s = i
    · rw [if_pos e, ← e, upd_at]; exact strF_ext hf
    · rw [if_neg e, upd_ne _ _ (fun x => e x.symm), h.dm]; exact h.dS i hi
  · by_cases e : i = s
    · rw [e, upd_at]; exact fun j hj => h.byte (o + j) (by omega)
    · rw [upd_ne _ _ e]; exact h.dB i hi
theorem src_byte2 (w : World) (x : Int) (t : TypeId) (k : Nat) (hk : k = w.heap.size) : Src Tryz.prog 1 49 (.slice (some ⟨k, 0, none⟩) 1 1) [x].length (bcells [x]) (w.alloc (.cells #[.int .u8 x] t)) := src_byte w x t k hk
theorem byteAt_is (r : Nat) (P : RPh) (L : Lg) (a : Nat) (x : Int) (w : World) (h : RBus w r P L) (hx : x = (a : Int)) (ha : a < 1048576) : Calls Tryz.prog 88 #[.pointer (some ⟨r, 0, none⟩), .int .u32 x] w fun e w' => e = .returned (.int .u8 (L.M a)) ∧ w' = w := by
  subst hx
  exact byteAt_any r P L a w h ha
set_option maxHeartbeats 1600000 in
set_option maxRecDepth 20000 in
theorem done_write (r : Nat) (P : RPh) (L : Lg) (s o : Nat) (w : World) (h : RBus w r P L) (hs : L.sc = s) (hn : s < L.n) (hm : L.m < 4096) (ho : L.ad = o) (h4 : (o : Int) % 4 = 0) (h5 : (o : Int) ≤ 1047552) : Calls Tryz.prog 114 #[.pointer (some ⟨r, 0, none⟩), .int .u32 2] w fun e w' => e = .returned (.bool true) ∧ ∃ P', RStp w r P w' P' { L with S := upd L.S s (memF L.M o), m := L.m + 1 } := by
  have c1 := h.eight.c1
  have c5 := h.eight.c5
  have c6 := h.eight.c6
  have s1 := h.sc.2
  rw [hs] at c5 s1
  rw [ho] at c6
  have H : Hid (RBus w r P L) := h
  have n1 := h.dsk.n1
  have HN : Hid (s < P.R.n) := by show s < P.R.n; rw [h.dn]; exact hn
  have HMm : Hid (P.R.m = L.m) := h.dm
  have hs2 : decide ((P.R.n : Int) ≤ (s : Int)) = false := by have := HN.out; simp; omega
  have hp2 : ¬ (1047552 : Int) < (o : Int) := by omega
  have hp3 : decide ((1047552 : Int) < (o : Int)) = false := by simp; omega
  have hwr : IntKind.i64.wrap (s : Int) = s := wrapI (by omega) s1
  have hns : (s : Int) < (P.R.n : Int) := by have := HN.out; omega
  have hs3 : decide (P.R.n ≤ s) = false := by have := HN.out; simp; omega
  have hs4 : s < P.R.n := HN.out
  have hp4 : o ≤ 1047552 := by omega
  have hp5 : decide (1047552 < o) = false := by simp; omega
  have HO : Hid (L.ad = o ∧ L.sc = s) := ⟨ho, hs⟩
  clear h hs ho
  go_enter Tryz.func114, Tryz.ntmps114
  go_wp2
  go_quiet ((go_at_call 113; exact Calls.quiet_of_same (rsecs_any P.rd P.R _ (rep_drew H.out.dsk _))))
  go_wp2
  rw [h4]
  have H0 : Hid (WrRel w L.M o none 0 0 (w.drewN nq)) := ⟨⟨.inl ⟨rfl, rfl, rfl⟩, fun x hx => by cases hx⟩, fun x hx => (no_none2 x hx).elim, drewNB w nq⟩
  clear hs2 hs3 hs4 hns hp2 hp3 hp5 c1 c5 c6
  go_loopw [8, 9] (fun v i X => ∃ (k : Nat) (a : Option Addr) (c : Nat), k ≤ 1024 ∧ i = .int .i64 k ∧ v = .slice a k c ∧ WrRel w L.M o a c k X) (fun _ i _ => 1024 - (intOf i).toNat)
  case atStart => exact ⟨0, none, 0, by omega, rfl, rfl, H0.out⟩
  case round =>
    obtain ⟨k, a, c, hk, rfl, rfl, hX⟩ := hrel
    have HX : Hid (WrRel w L.M o a c k wr) := hX
    clear hX H0
    by_cases hlt : k < 1024
    · have k1 : (k : Int) < 1024 := by omega
      have k0 : (0 : Int) ≤ (k : Int) := by omega
      have HB : Hid (RBus wr r P L) := H.out.below HX.out.below
      have x6 : wr.cell? ⟨r, 6, none⟩ = some (.int .u32 (o : Int)) := by
        have e := HB.out.eight.c6
        rw [HO.out.1] at e
        exact e
      have k3 : IntKind.u32.wrap (k : Int) = k := by rw [wrap_u32]; omega
      have k4 : IntKind.u32.wrap ((o : Int) + (k : Int)) = (o : Int) + (k : Int) := by rw [wrap_u32]; omega
      have HOk : Hid ((o : Int) + (k : Int) = ((o + k : Nat) : Int)) := by show _ = _; omega
      have hbb : Below wr.heap.size wr (wr.alloc (.cells #[.int .u8 (L.M (o + k))] 5)) := (Below.refl _ wr).alloc (Nat.le_refl _) _
      have hrow : SRow (wr.alloc (.cells #[.int .u8 (L.M (o + k))] 5)) a c (memL L.M o k) := HX.out.row.same fun x hx => hbb.block x (HX.out.own x hx).2
      obtain ⟨a', c', w3, hr3, hS3, ht3, ha3, hl3⟩ := srow_append hrow 49 49 _ [L.M (o + k)] (src_byte2 wr (L.M (o + k)) 5 _ rfl) (by intro y hy; simp at hy; subst hy; exact HB.out.byte _ (by omega)) (by rw [memL_len]; simp; omega)
      rw [memL_len] at hr3
      have HR3 : Hid _ := hr3
      have HX3 : Hid (WrRel w L.M o a' c' (k + 1) w3) := by
        have hw : Below w.heap.size w (wr.alloc (.cells #[.int .u8 (L.M (o + k))] 5)) := HX.out.below.trans (hbb.mono HX.out.below.size)
        refine ⟨by rw [← memL_next]; exact hS3, fun x hx => ⟨?_, hl3 x hx⟩, hw.trans (ht3.below hw.size fun x hx => (HX.out.own x hx).1)⟩
        rcases ha3 x hx with e | e
        · exact (HX.out.own x e).1
        · exact Nat.le_trans hw.size e
      clear hbb hrow hr3 hS3 ht3 ha3 hl3
      go_wp2_with (first
        | (go_at_call 88; refine (byteAt_is r P L (o + k) _ _ HB.out HOk.out (by omega)).mono ?_; rintro e w2 ⟨rfl, hw⟩; obtain rfl := hw.symm)
        | (at_builtin; refine wpList_append_eq rfl _ _ _ _ rfl _ _ _ _ rfl rfl HR3.out ?_))
      go_roundw
      case rel => exact ⟨k + 1, a', c', by omega, by go_num, by simp, HX3.out⟩
      case measure => simp [intOf]; omega
    · obtain rfl : k = 1024 := by omega
      have HB : Hid (RBus wr r P L) := H.out.below HX.out.below
      have x1 := HB.out.eight.c1
      have x5 := HB.out.eight.c5
      rw [HO.out.2] at x5
      have HRd : Hid (RdB wr a 1024 (fun i => (memL L.M o 1024).getD i 0)) := by
        have e := HX.out.row.rd (by rw [memL_len]; decide)
        rw [memL_len] at e
        exact e
      go_wp2
      go_region_with (go_at_call 143; refine (rwrite_good P.rd P.R s _ _ (fun i => (memL L.M o 1024).getD i 0) _ (HB.out.dsk.below ((Below.refl _ wr).drew)) HN.out (by rw [HMm.out]; exact hm) (HRd.out.below ((Below.refl _ wr).drew))).mono ?_; rintro e w4 ⟨g, cc, rfl, hR, ht, hmu⟩; have HE : Hid (∃ P', RStp w r P w4 P' { L with S := upd L.S s (memF L.M o), m := L.m + 1 }) := write_end H.out (HX.out.below.drew) hn (by omega) (fun i hi => memL_at L.M o hi) hR ht hmu; clear hR ht hmu)
      all_goals
        go_wp2
        go_ret
        exact ⟨rfl, HE.out⟩
end Go.Proofs.YteegkhnikcioiaaGreatDoor

namespace Go.Proofs.YteegkhnikcioiaaGreatDoor
open Go.ChangeShapes Go.WideShapes Go.ChangeAt Go.RowKit
attribute [local go_sem ↓] loadSec_seal storeSec_seal eqlSec_seal zeroSec
attribute [local go_sem] loadSec_run storeSec_run rowAt_at rowAt_old rowAt_drew rowAt_drewN roomSec_new roomAt_old roomAt_drew roomAt_drewN putSec_new putRow_past rowSec_put size_put putRow_drew putRow_drewN alloc_drewN setCell_drewN sec_size

set_option linter.unusedVariables false

set_option maxHeartbeats 1600000 in
set_option maxRecDepth 20000 in
theorem done_worn (r : Nat) (P : RPh) (L : Lg) (s o : Nat) (w : World) (h : RBus w r P L) (hs : L.sc = s) (hn : s < L.n) (hm : 4096 ≤ L.m) (ho : L.ad = o) (h4 : (o : Int) % 4 = 0) (h5 : (o : Int) ≤ 1047552) : Calls Tryz.prog 114 #[.pointer (some ⟨r, 0, none⟩), .int .u32 2] w fun e w' => e = .returned (.bool false) ∧ Below w.heap.size w w' := by
  have c1 := h.eight.c1
  have c5 := h.eight.c5
  have c6 := h.eight.c6
  have s1 := h.sc.2
  rw [hs] at c5 s1
  rw [ho] at c6
  have H : Hid (RBus w r P L) := h
  have n1 := h.dsk.n1
  have HN : Hid (s < P.R.n) := by show s < P.R.n; rw [h.dn]; exact hn
  have HMm : Hid (P.R.m = L.m) := h.dm
  have hs2 : decide ((P.R.n : Int) ≤ (s : Int)) = false := by have := HN.out; simp; omega
  have hp2 : ¬ (1047552 : Int) < (o : Int) := by omega
  have hp3 : decide ((1047552 : Int) < (o : Int)) = false := by simp; omega
  have hwr : IntKind.i64.wrap (s : Int) = s := wrapI (by omega) s1
  have hns : (s : Int) < (P.R.n : Int) := by have := HN.out; omega
  have hs3 : decide (P.R.n ≤ s) = false := by have := HN.out; simp; omega
  have hs4 : s < P.R.n := HN.out
  have hp4 : o ≤ 1047552 := by omega
  have hp5 : decide (1047552 < o) = false := by simp; omega
  have HO : Hid (L.ad = o ∧ L.sc = s) := ⟨ho, hs⟩
  clear h hs ho
  go_enter Tryz.func114, Tryz.ntmps114
  go_wp2
  go_quiet ((go_at_call 113; exact Calls.quiet_of_same (rsecs_any P.rd P.R _ (rep_drew H.out.dsk _))))
  go_wp2
  rw [h4]
  have H0 : Hid (WrRel w L.M o none 0 0 (w.drewN nq)) := ⟨⟨.inl ⟨rfl, rfl, rfl⟩, fun x hx => by cases hx⟩, fun x hx => (no_none2 x hx).elim, drewNB w nq⟩
  clear hs2 hs3 hs4 hns hp2 hp3 hp5 c1 c5 c6
  go_loopw [8, 9] (fun v i X => ∃ (k : Nat) (a : Option Addr) (c : Nat), k ≤ 1024 ∧ i = .int .i64 k ∧ v = .slice a k c ∧ WrRel w L.M o a c k X) (fun _ i _ => 1024 - (intOf i).toNat)
  case atStart => exact ⟨0, none, 0, by omega, rfl, rfl, H0.out⟩
  case round =>
    obtain ⟨k, a, c, hk, rfl, rfl, hX⟩ := hrel
    have HX : Hid (WrRel w L.M o a c k wr) := hX
    clear hX H0
    by_cases hlt : k < 1024
    · have k1 : (k : Int) < 1024 := by omega
      have k0 : (0 : Int) ≤ (k : Int) := by omega
      have HB : Hid (RBus wr r P L) := H.out.below HX.out.below
      have x6 : wr.cell? ⟨r, 6, none⟩ = some (.int .u32 (o : Int)) := by
        have e := HB.out.eight.c6
        rw [HO.out.1] at e
        exact e
      have k3 : IntKind.u32.wrap (k : Int) = k := by rw [wrap_u32]; omega
      have k4 : IntKind.u32.wrap ((o : Int) + (k : Int)) = (o : Int) + (k : Int) := by rw [wrap_u32]; omega
      have HOk : Hid ((o : Int) + (k : Int) = ((o + k : Nat) : Int)) := by show _ = _; omega
      have hbb : Below wr.heap.size wr (wr.alloc (.cells #[.int .u8 (L.M (o + k))] 5)) := (Below.refl _ wr).alloc (Nat.le_refl _) _
      have hrow : SRow (wr.alloc (.cells #[.int .u8 (L.M (o + k))] 5)) a c (memL L.M o k) := HX.out.row.same fun x hx => hbb.block x (HX.out.own x hx).2
      obtain ⟨a', c', w3, hr3, hS3, ht3, ha3, hl3⟩ := srow_append hrow 49 49 _ [L.M (o + k)] (src_byte2 wr (L.M (o + k)) 5 _ rfl) (by intro y hy; simp at hy; subst hy; exact HB.out.byte _ (by omega)) (by rw [memL_len]; simp; omega)
      rw [memL_len] at hr3
      have HR3 : Hid _ := hr3
      have HX3 : Hid (WrRel w L.M o a' c' (k + 1) w3) := by
        have hw : Below w.heap.size w (wr.alloc (.cells #[.int .u8 (L.M (o + k))] 5)) := HX.out.below.trans (hbb.mono HX.out.below.size)
        refine ⟨by rw [← memL_next]; exact hS3, fun x hx => ⟨?_, hl3 x hx⟩, hw.trans (ht3.below hw.size fun x hx => (HX.out.own x hx).1)⟩
        rcases ha3 x hx with e | e
        · exact (HX.out.own x e).1
        · exact Nat.le_trans hw.size e
      clear hbb hrow hr3 hS3 ht3 ha3 hl3
      go_wp2_with (first
        | (go_at_call 88; refine (byteAt_is r P L (o + k) _ _ HB.out HOk.out (by omega)).mono ?_; rintro e w2 ⟨rfl, hw⟩; obtain rfl := hw.symm)
        | (at_builtin; refine wpList_append_eq rfl _ _ _ _ rfl _ _ _ _ rfl rfl HR3.out ?_))
      go_roundw
      case rel => exact ⟨k + 1, a', c', by omega, by go_num, by simp, HX3.out⟩
      case measure => simp [intOf]; omega
    · obtain rfl : k = 1024 := by omega
      have HB : Hid (RBus wr r P L) := H.out.below HX.out.below
      have x1 := HB.out.eight.c1
      have x5 := HB.out.eight.c5
      rw [HO.out.2] at x5
      have HRd : Hid (RdB wr a 1024 (fun i => (memL L.M o 1024).getD i 0)) := by
        have e := HX.out.row.rd (by rw [memL_len]; decide)
        rw [memL_len] at e
        exact e
      go_wp2
      have HE : Hid (¬ firstE (s : Int) P.R.n 1024 P.R.m = 0) := by
        have hmm : 4096 ≤ (P.R.m : Int) := by rw [HMm.out]; omega
        have hnn := HN.out
        have e : firstE (s : Int) P.R.n 1024 P.R.m = 33 := by
          unfold firstE placeE dataE wearE
          rw [if_neg (by omega : ¬ ((s : Int) < 0 ∨ (P.R.n : Int) ≤ (s : Int))), if_pos (show ((1024 : Nat) : Int) = 1024 from rfl), if_pos hmm]; rfl
        show ¬ firstE (s : Int) P.R.n 1024 P.R.m = 0
        rw [e]; decide
      have hE0 : (firstE (s : Int) P.R.n 1024 P.R.m == 0) = false := by simpa using HE.out
      go_region_with (go_at_call 143; refine (rwrite_bad P.rd P.R _ _ 1024 _ _ (HB.out.dsk.below ((Below.refl _ wr).drew)) HE.out).mono ?_; rintro e w4 ⟨rfl, hb4⟩)
      all_goals
        go_wp2
        go_ret
        exact ⟨rfl, HX.out.below.trans ((drewB hb4).mono HX.out.below.size)⟩
end Go.Proofs.YteegkhnikcioiaaGreatDoor
