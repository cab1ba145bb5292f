/-
  Layer 17: words in sectors: the program's wordIn, readMarked, sectorsIn, readRoot.
-/
import Derived.Test.YtmjflbleobmjdaaGreatDoorPlb
namespace Go.Proofs.YtmjflbleobmjdaaGreatDoor
set_option linter.unusedVariables false
set_option linter.unusedSimpArgs false
open Go.ChangeShapes Go.WideShapes Go.ChangeAt Go.RowKit
attribute [local go_sem ↓] loadSec_seal storeSec_seal eqlSec_seal zeroSec
attribute [local go_sem] loadSec_run storeSec_run rowAt_at rowAt_old rowAt_drew rowAt_drewN roomSec_new roomAt_old roomAt_drew roomAt_drewN putSec_new putRow_past rowSec_put size_put putRow_drew putRow_drewN alloc_drewN setCell_drewN sec_size

set_option linter.unusedVariables false

theorem fits_yes {p : Nat} (h : p + 4 ≤ 1024) : fits 1024 (p : Int) = true := by unfold fits; exact decide_eq_true (by omega)
theorem wordIn_any (a : Option Addr) (cap : Nat) (f : Nat → Int) (p : Nat) (w : World) (hr : RdB w a 1024 f) (hp : p + 4 ≤ 1024) :
    Calls Tryz.prog 69 #[.slice a 1024 cap, .int .i64 (p : Int)] w fun e w' => e = .returned (.int .u32 (wordAt f (p : Int))) ∧ Below w.heap.size w w' := by
  have H := hidD (get_any a 1024 cap f (p : Int) w hr)
  have e : gotW 1024 f (p : Int) = wordAt f (p : Int) := if_pos (fits_yes hp)
  rw [e, fits_yes hp] at H
  generalize wordAt f (p : Int) = x at H
  go_enter Tryz.func69, Tryz.ntmps69
  go_wp2_with (go_at_call 80; refine H.out.mono ?_; rintro e w1 ⟨rfl, hb⟩)
  go_ret
  exact ⟨rfl, hb⟩
/-- What readMarked answers. -/
def RmP (w : World) (f : Nat → Int) (r : Option Int) (e : Ending) (w' : World) : Prop := match r with
  | some m => ∃ g, e = .returned (.tuple #[.slice (some ⟨g, 0, none⟩) 1024 1024, .int .i64 m, .bool true]) ∧ RdB w' (some ⟨g, 0, none⟩) 1024 f ∧ w.heap.size ≤ g
  | none => e = .returned (.tuple #[.slice none 0 0, .int .i64 0, .bool false])
theorem rd_sec {w : World} {g : Nat} {f : Nat → Int} (h : rowAt w g = some (sec f)) (hf : ByteF f) : RdB w (some ⟨g, 0, none⟩) 1024 f :=
  ⟨by unfold maxLen; omega, .inr ⟨g, 0, rfl, fun i hi => ⟨by rw [Nat.zero_add, rowAt_cell h, sec_at f hi], hf i hi⟩⟩⟩
theorem place_no {s : Int} {n : Nat} (h : ¬ (0 ≤ s ∧ s < n)) : placeE s n = 31 := by unfold placeE; rw [if_pos (by omega)]
set_option maxHeartbeats 4000000 in
theorem readMarked_any (d : Nat) (D : Dk) (s mark most : Int) (w : World) (h : Rep w d D) (hm : most ≤ 4294967295) :
    Calls Tryz.prog 42 #[.pointer (some ⟨d, 0, none⟩), .int .i64 s, .int .u32 mark, .int .u32 most] w fun e w' => RmP w (D.S s.toNat) (markedP D.n D.S s mark most) e w' ∧ Below w.heap.size w w' := by
  by_cases hs : 0 ≤ s ∧ s < D.n
  · obtain ⟨k, rfl⟩ := Int.eq_ofNat_of_zero_le hs.1
    have hk : k < D.n := by omega
    have hb := (h.secS k hk).2
    have HR := hidD (read_good d D k w h hk)
    rw [Int.toNat_natCast]
    obtain ⟨x0, x1⟩ := wdF_bd hb (i := 0) (by omega)
    obtain ⟨y0, y1⟩ := wdF_bd hb (i := 1) (by omega)
    have HW0 := hidD (fun X g (hX : RdB X (some ⟨g, 0, none⟩) 1024 (D.S k)) => wordIn_any (some ⟨g, 0, none⟩) 1024 (D.S k) 0 X hX (by omega))
    have HW1 := hidD (fun X g (hX : RdB X (some ⟨g, 0, none⟩) 1024 (D.S k)) => wordIn_any (some ⟨g, 0, none⟩) 1024 (D.S k) 4 X hX (by omega))
    have HB := hidD hb
    have HM : Hid (markedP D.n D.S (k : Int) mark most = if wdF (D.S k) 0 = mark ∧ wdF (D.S k) 1 ≤ most then some (wdF (D.S k) 1) else none) := by
      show _ = _
      unfold markedP
      rw [Int.toNat_natCast]
      by_cases hc : wdF (D.S k) 0 = mark ∧ wdF (D.S k) 1 ≤ most
      · rw [if_pos hc, if_pos ⟨by omega, hs.2, hc⟩]
      · rw [if_neg hc, if_neg (fun hh => hc hh.2.2)]
    rw [HM.out]
    have e0 : wordAt (D.S k) ((0 : Nat) : Int) = wdF (D.S k) 0 := rfl
    have e1 : wordAt (D.S k) ((4 : Nat) : Int) = wdF (D.S k) 1 := rfl
    rw [e0] at HW0
    rw [e1] at HW1
    generalize wdF (D.S k) 0 = x at x0 x1 HW0
    generalize wdF (D.S k) 1 = y at y0 y1 HW1
    clear HM e0 e1 hb h hs hk
    by_cases hx : x = mark
    · have d0 : (x == mark) = true := by simpa using hx
      have d0' : (x != mark) = false := by simpa using hx
      have hx' := hidD hx
      clear hx
      by_cases hy : y ≤ most
      · have d1 : decide (y > most) = false := decide_eq_false (by omega)
        have d2 : decide (most < y) = false := decide_eq_false (by omega)
        rw [if_pos ⟨hx'.out, hy⟩]
        go_enter Tryz.func42, Tryz.ntmps42
        go_wp2_with (first
          | (go_at_call 68; refine HR.out.mono ?_; rintro e w1 ⟨g, rfl, hg, hr, _, _, hb1⟩; have HG := hidD (rd_sec hr HB.out); have HNG := hidD hg; have HB1 := hidD hb1; clear hr hb1 hg)
          | (go_at_call 69; have hz := HB2; clear hz; refine (HW1.out _ g (HG.out.below (HB2.out.trans (HB3.out.mono (HB2.out.size))))).mono ?_; rintro e w4 ⟨rfl, hb4⟩; have HB4 := hidD hb4; clear hb4)
          | (go_at_call 69; have hz := HB2; clear hz; refine (HW1.out _ g (HG.out.below HB2.out)).mono ?_; rintro e w3 ⟨rfl, hb3⟩; have HB3 := hidD hb3; clear hb3)
          | (go_at_call 69; refine (HW0.out _ g HG.out).mono ?_; rintro e w2 ⟨rfl, hb2⟩; have HB2 := hidD hb2; clear hb2))
        go_ret3
        have b3 := HB2.out.trans (HB3.out.mono HB2.out.size)
        have b4 := b3.trans (HB4.out.mono b3.size)
        exact ⟨⟨g, rfl, HG.out.below b4, HNG.out⟩, HB1.out.trans (b4.mono HB1.out.size)⟩
      · have d1 : decide (y > most) = true := decide_eq_true (by omega)
        have d2 : decide (most < y) = true := decide_eq_true (by omega)
        rw [if_neg (fun hh => hy hh.2)]
        go_enter Tryz.func42, Tryz.ntmps42
        go_wp2_with (first
          | (go_at_call 68; refine HR.out.mono ?_; rintro e w1 ⟨g, rfl, hg, hr, _, _, hb1⟩; have HG := hidD (rd_sec hr HB.out); have HB1 := hidD hb1; clear hr hb1)
          | (go_at_call 69; have hz := HB2; clear hz; refine (HW1.out _ g (HG.out.below HB2.out)).mono ?_; rintro e w3 ⟨rfl, hb3⟩; have HB3 := hidD hb3; clear hb3)
          | (go_at_call 69; refine (HW0.out _ g HG.out).mono ?_; rintro e w2 ⟨rfl, hb2⟩; have HB2 := hidD hb2; clear hb2))
        go_ret3
        have b3 := HB2.out.trans (HB3.out.mono HB2.out.size)
        exact ⟨rfl, HB1.out.trans (b3.mono HB1.out.size)⟩
    · have d0 : (x == mark) = false := by simpa using hx
      have d0' : (x != mark) = true := by simpa using hx
      rw [if_neg (fun hh => hx hh.1)]
      clear hx
      go_enter Tryz.func42, Tryz.ntmps42
      go_wp2_with (first
        | (go_at_call 68; refine HR.out.mono ?_; rintro e w1 ⟨g, rfl, hg, hr, _, _, hb1⟩; have HG := hidD (rd_sec hr HB.out); have HB1 := hidD hb1; clear hr hb1)
        | (go_at_call 69; refine (HW0.out _ g HG.out).mono ?_; rintro e w2 ⟨rfl, hb2⟩; have HB2 := hidD hb2; clear hb2))
      go_ret3
      exact ⟨rfl, HB1.out.trans (HB2.out.mono HB1.out.size)⟩
  · have HR := hidD (read_bad d D s w h (place_no hs))
    rw [show markedP D.n D.S s mark most = none from if_neg (fun hh => hs ⟨hh.1, hh.2.1⟩)]
    clear hs h
    go_enter Tryz.func42, Tryz.ntmps42
    go_wp2_with (go_at_call 68; refine HR.out.mono ?_; rintro e w1 ⟨rfl, hb1⟩)
    go_ret3
    exact ⟨rfl, hb1⟩
theorem fillV_own {w X : World} {n : Nat} {f : Nat → Int} (h : FillV w w.heap.size n n 3 (fun i => .int .i64 (f i)) X) (hn : n ≤ 1000000) : OwI X w.heap.size (.slice (some ⟨w.heap.size, 0, none⟩) n n) ((List.range n).map f) := by
  have hl : ((List.range n).map f).length = n := by simp
  obtain ⟨_, _, cur, hg, hs, hc⟩ := h
  have := OwI.mk (w := X) (B := w.heap.size) (g := w.heap.size) (c := n) (l := (List.range n).map f) (cur := cur) (Nat.le_refl _) hg (by omega) (by unfold maxLen; omega) hs (by
    apply List.ext_getElem?
    intro j
    by_cases hj : j < n
    · rw [List.getElem?_take, if_pos (by simpa using hj)]
      have := hc j hj
      simp [ints, hj, this]
    · rw [List.getElem?_eq_none (by simp; omega), List.getElem?_eq_none (by simp [ints]; omega)])
  rwa [hl] at this
theorem FillV.next {w X Y : World} {G n k : Nat} {t : TypeId} {v : Nat → Value} (h : FillV w G n k t v X) (hb : Below X.heap.size X Y) : FillV w G n k t v Y := by
  have hl := h.lt
  obtain ⟨h1, h2, cur, hg, hs, hc⟩ := h
  exact ⟨h1.trans (hb.mono h1.size), h2, cur, (hb.block G hl).trans hg, hs, hc⟩
set_option maxHeartbeats 4000000 in
theorem sectorsIn_any (a : Option Addr) (cap : Nat) (f : Nat → Int) (many : Nat) (w : World) (hr : RdB w a 1024 f) (hm : many ≤ 254) :
    Calls Tryz.prog 43 #[.slice a 1024 cap, .int .i64 many] w fun e w' => ∃ v, e = .returned v ∧ OwI w' w.heap.size v (wordsP f many) ∧ Below w.heap.size w w' := by
  obtain ⟨i0, hi, hz0, hz1, hz2⟩ := Tryz.info3p
  have HRD := hidD hr
  have HBY := hidD hr.bytes
  have n1 : (many : Int) ≤ 254 := by omega
  go_enter Tryz.func43, Tryz.ntmps43
  go_wp2_with (at_make; refine wpList_make_full _ rfl _ _ 49 rfl w.heap.size 3 i0 (.int .i64 0) 1 Tryz.underlying49 hi hz0 hz1 .i64 .i64 _ _ many rfl rfl (by omega) (by omega) (by rw [hz2]; omega) (by unfold maxLen; omega) (Nat.le_refl _) ?_; intro w2 hown2 hgrow2; have HF := hidD (FillV.start (fun i => .int .i64 (wdF f (2 + i))) hown2 hgrow2); clear hown2 hgrow2)
  go_loopw [11] (fun i X => ∃ k : Nat, k ≤ many ∧ i = .int .i64 k ∧ FillV w w.heap.size many k 3 (fun i => .int .i64 (wdF f (2 + i))) X) (fun i _ => many - (intOf i).toNat)
  case atStart => exact ⟨0, by omega, rfl, HF.out⟩
  case round =>
    obtain ⟨k, hk, rfl, hF⟩ := hrel
    have HF' := hidD hF
    clear HF
    by_cases hlt : k < many
    · have i0 : (0 : Int) ≤ (k : Int) := by omega
      have i1 : (k : Int) < (many : Int) := by omega
      have HW := hidD (wordIn_any a cap f (4 * (2 + k)) wr (HRD.out.below hF.below) (by omega))
      have hw2 := wdF_bd HBY.out (i := 2 + k) (by omega)
      have e0 : wordAt f ((4 * (2 + k) : Nat) : Int) = wdF f (2 + k) := rfl
      have e1 : ((4 * (2 + k) : Nat) : Int) = 8 + 4 * (k : Int) := by omega
      rw [e0, e1] at HW
      generalize hx : wdF f (2 + k) = x at HW hw2
      have HX := hidD hx
      clear hF hx e0 e1
      go_wp2_with (go_at_call 69; refine HW.out.mono ?_; rintro e w3 ⟨rfl, hb3⟩; have HF3 := hidD (HF'.out.next hb3); obtain ⟨⟨v0, hv0⟩, hfz⟩ := HF3.out.at hlt; clear hb3)
      go_roundw
      case rel =>
        have hs := HF3.out.step hlt
        simp only [HX.out] at hs
        exact ⟨k + 1, by omega, by go_num, hs⟩
      case measure => simp [intOf]; omega
    · obtain rfl : k = many := by omega
      clear hF
      go_wp2
      go_ret
      exact ⟨_, rfl, fillV_own HF'.out (by omega), HF'.out.below⟩
end Go.Proofs.YtmjflbleobmjdaaGreatDoor
