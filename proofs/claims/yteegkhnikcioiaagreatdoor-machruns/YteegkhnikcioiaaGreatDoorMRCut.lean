/-
  The document's disk: a write, a sector behind so many writes, a read.
  How the document's bus lies in memory.
  The short calls of the document's bus.
  The document's disk: its writes in order, the image behind so many writes.
-/
import Derived.Test.YteegkhnikcioiaaGreatDoorMBRNew
import Derived.Test.YteegkhnikcioiaaGreatDoorMMemLaw
import Derived.BigRegion
import Derived.Laws.DeepStrings4
import Derived.Test.YteegkhnikcioiaaGreatDoorMBImage
import Derived.Lib.AppendStr
namespace Go.Proofs.YteegkhnikcioiaaGreatDoor
open Go.ChangeShapes Go.WideShapes Go.ChangeAt Go.RowKit
attribute [local go_sem ↓] loadSec_seal storeSec_seal eqlSec_seal zeroSec
attribute [local go_sem] loadSec_run storeSec_run rowAt_at rowAt_old rowAt_drew rowAt_drewN roomSec_new roomAt_old roomAt_drew roomAt_drewN putSec_new putRow_past rowSec_put size_put putRow_drew putRow_drewN alloc_drewN setCell_drewN sec_size

set_option linter.unusedVariables false
set_option linter.unusedVariables false

theorem RepR.parts {w : World} {r : Nat} {R : Rk} (h : RepR w r R) : ∃ fa fc wa wc, R.fv = .slice fa R.n fc ∧ R.wv = .slice wa R.m wc ∧ w.cell? ⟨r, 0, none⟩ = some (.slice fa R.n fc) ∧ w.cell? ⟨r, 1, none⟩ = some (.slice wa R.m wc) ∧ r < w.heap.size := by
  obtain ⟨fa, fc, e1⟩ := ownV h.first
  obtain ⟨wa, wc, e2⟩ := ownV h.row
  exact ⟨fa, fc, wa, wc, e1, e2, by rw [← e1]; exact h.cell0.1, by rw [← e2]; exact h.cell1.1, h.lt r (.inl rfl)⟩
set_option maxHeartbeats 2000000 in
theorem rwrite_bad (r : Nat) (R : Rk) (n : Int) (a : Option Addr) (len cap : Nat) (w : World) (h : RepR w r R) (hE : ¬ firstE n R.n len R.m = 0) : Calls Tryz.prog 143 #[.pointer (some ⟨r, 0, none⟩), .int .i64 n, .slice a len cap] w fun e w' => e = .returned (.int .i64 (firstE n R.n len R.m)) ∧ Below w.heap.size w w' := by
  obtain ⟨fa, fc, wa, wc, _, _, c0, c1, hr⟩ := h.parts
  clear h
  by_cases h0 : n < 0
  · have e : firstE n R.n len R.m = 31 := by unfold firstE placeE; rw [if_pos (Or.inl h0), if_neg (by decide)]
    rw [e]
    clear hE e
    go_enter Tryz.func143, Tryz.ntmps143
    go_wp2
    go_ret
    exact ⟨rfl, by go_grown⟩
  · by_cases h1 : (R.n : Int) ≤ n
    · have e : firstE n R.n len R.m = 31 := by unfold firstE placeE; rw [if_pos (Or.inr h1), if_neg (by decide)]
      rw [e]
      clear hE e
      go_enter Tryz.func143, Tryz.ntmps143
      go_wp2
      go_ret
      exact ⟨rfl, by go_grown⟩
    · by_cases h2 : (len : Int) = 1024
      · by_cases h3 : 4096 ≤ (R.m : Int)
        · have e : firstE n R.n len R.m = 33 := by
            unfold firstE placeE dataE wearE
            rw [if_neg (by omega : ¬ (n < 0 ∨ (R.n : Int) ≤ n)), if_pos h2, if_pos h3]; rfl
          rw [e]
          clear hE e
          go_enter Tryz.func143, Tryz.ntmps143
          go_wp2
          go_ret
          exact ⟨rfl, by go_grown⟩
        · exact absurd (by unfold firstE placeE dataE wearE; rw [if_neg (by omega : ¬ (n < 0 ∨ (R.n : Int) ≤ n)), if_pos h2, if_neg h3]; rfl) hE
      · have e : firstE n R.n len R.m = 32 := by
          unfold firstE placeE dataE
          rw [if_neg (by omega : ¬ (n < 0 ∨ (R.n : Int) ≤ n)), if_neg h2]; rfl
        rw [e]
        clear hE e
        go_enter Tryz.func143, Tryz.ntmps143
        go_wp2
        go_ret
        exact ⟨rfl, by go_grown⟩
theorem info69 : (Tryz.prog.info? 133).map (fun i => (i.zero, i.size, i.bytes)) = some (some (.agg #[.int .i64 0, .string ⟨#[]⟩]), 2, 24) := by kernel_rfl
theorem back_row {Y w5 : World} {r : Nat} {R : Rk} {vs : Obj} (hY : RepR Y r R) (hgrow : (Y.alloc vs).grownBy w5 R.wv.ownBlock) : w5.cell? ⟨r, 1, none⟩ = some R.wv ∧ w5.frozen? ⟨r, 1, none⟩ = false := by
  have r0 : r < Y.heap.size := hY.lt r (.inl rfl)
  have e : w5.heap[r]? = Y.heap[r]? := by
    rw [hgrow.block r (by simp; omega) (fun e => hY.d2 r e.symm rfl), Below.heap_alloc _ _ _ r0]
  exact ⟨(World.cell?_of_block e).trans hY.cell1.1, (World.frozen?_of_block e).trans hY.cell1.2⟩
set_option maxHeartbeats 4000000 in
set_option maxRecDepth 20000 in
theorem rwrite_good (r : Nat) (R : Rk) (n : Nat) (a : Option Addr) (cap : Nat) (f : Nat → Int) (w : World) (h : RepR w r R) (hn : n < R.n) (hm : R.m < 4096) (hf : RdB w a 1024 f) : Calls Tryz.prog 143 #[.pointer (some ⟨r, 0, none⟩), .int .i64 n, .slice a 1024 cap] w fun e w' => ∃ g c, e = .returned (.int .i64 0) ∧ RepR w' r (R.rowTo n (strF f 1024) g c) ∧ Tou (R.mut r) w w' ∧ (∀ x, (R.rowTo n (strF f 1024) g c).mut r x → R.mut r x ∨ w.heap.size ≤ x) := by
  obtain ⟨i0, hi, hz0, hz1, hz2⟩ := info_parts info69
  obtain ⟨fa, fc, wa, wc, e1, e2, c0, c1, hr⟩ := h.parts
  have HR : Hid (RepR w.drew r R ∧ R.wv = .slice wa R.m wc) := ⟨h.below (Below.refl _ w).drew, e2⟩
  have j0 : (0 : Int) ≤ (n : Int) := by omega
  have j1 : (n : Int) < (R.n : Int) := by omega
  have j2 : (R.m : Int) < 4096 := by omega
  have hx0 := conv_str cap hf
  have hx1 := conv_str (w := w.drew) cap hf
  clear h e1 e2 hf
  go_enter Tryz.func143, Tryz.ntmps143
  go_wp2
  go_region_law (refine step_append_lies _ rfl _ _ 84 rfl 0 133 i0 (.agg #[.int .i64 0, .string ⟨#[]⟩]) 2 24 Tryz.underlying84 hi hz0 hz1 hz2 rfl (by decide) _ R.m (rcells R.wn R.C R.m) rfl (by rw [← HR.out.2]; exact own_same HR.out.1.row (fun x hx => Below.heap_alloc _ _ _ (HR.out.1.lt x (.inr (.inr hx))))) ⟨w.heap.size, 0, none⟩ 1 1 [.int .i64 n, .string (strF f 1024)] rfl rfl (pair_src _ _ _ _ _ rfl) (by simp [Value.oneCell']) (by omega) (by unfold maxLen; omega) (by omega) (Nat.zero_le _) _ rfl ?_; intro g c w5 hown hgrow hat hlt; have hgrow2 := hgrow; rw [← HR.out.2] at hgrow2; obtain ⟨d0, d1⟩ := back_row HR.out.1 hgrow2; have HS : Hid _ := rep_row (n := n) (s := strF f 1024) HR.out.1 hm hown hgrow2 (by rw [HR.out.2]; exact hat.imp id (fun h => by simpa using h)); clear hown hgrow hgrow2 hat hlt)
  all_goals
    go_wp2
    go_ret
    exact ⟨g, c, rfl, HS.out.1, ⟨HS.out.2.1.os, HS.out.2.1.tape, HS.out.2.1.output, HS.out.2.1.size, HS.out.2.1.block⟩, HS.out.2.2⟩
def lastR (R : Rk) : Nat → Nat → ByteArray
  | 0, n => R.F n
  | k + 1, n => if R.wn k = n then R.C k else lastR R k n
theorem RepR.rowAt' {w : World} {r : Nat} {R : Rk} (h : RepR w r R) {k : Nat} (hk : k < R.m) : ∃ rg rc, R.wv = .slice (some ⟨rg, 0, none⟩) R.m rc ∧ w.cell? ⟨rg, k * 2, none⟩ = some (.int .i64 (R.wn k)) ∧ w.cell? ⟨rg, k * 2 + 1, none⟩ = some (.string (R.C k)) := by
  have hr := h.row
  rcases hr.2 with ⟨_, e0⟩ | ⟨g, cap, cur, e, _, _, h4, _⟩
  · omega
  · rw [e] at hr
    have h2 := rcells_at R.wn R.C R.m hk
    refine ⟨g, cap, e, ?_, ?_⟩
    · rw [(own_cell hr (j := k * 2) (by omega)).1]; exact h2.1
    · rw [(own_cell hr (j := k * 2 + 1) (by omega)).1]; exact h2.2
theorem RepR.firstAt {w : World} {r : Nat} {R : Rk} (h : RepR w r R) {n : Nat} (hn : n < R.n) : ∃ fg fc, R.fv = .slice (some ⟨fg, 0, none⟩) R.n fc ∧ w.cell? ⟨fg, n, none⟩ = some (.string (R.F n)) := by
  have hr := h.first
  rcases hr.2 with ⟨_, e0⟩ | ⟨g, cap, cur, e, _⟩
  · omega
  · rw [e] at hr
    exact ⟨g, cap, e, by rw [(own_cell hr (j := n) (by omega)).1, strs_at R.F hn]⟩
set_option maxHeartbeats 4000000 in
theorem rat_any (r : Nat) (R : Rk) (n k : Nat) (w : World) (h : RepR w r R) (hn : n < R.n) (hk : k ≤ R.m) : Calls Tryz.prog 52 #[.pointer (some ⟨r, 0, none⟩), .int .i64 n, .int .i64 k] w fun e w' => e = .returned (.string (lastR R k n)) ∧ Below w.heap.size w w' := by
  have hm1 := h.m1
  obtain ⟨fa, fc, wa, wc, e1, e2, c0, c1, hr⟩ := h.parts
  obtain ⟨fg, fc', e3, c2⟩ := h.firstAt hn
  rw [e1] at e3
  injection e3 with e4 _ e5
  subst e4 e5
  have HR : Hid (RepR w r R ∧ R.wv = .slice wa R.m wc) := ⟨h, e2⟩
  have j0 : (0 : Int) ≤ (n : Int) := by omega
  have j1 : (n : Int) < (R.n : Int) := by omega
  have ws : IntKind.i64.wrap ((k : Int) - 1) = (k : Int) - 1 := by rw [IntWalk.i64_left, IntWalk.wrap64_in]; omega
  clear h e1 e2
  go_enter Tryz.func52, Tryz.ntmps52
  go_wp2
  go_loop [7] (fun i => ∃ j : Nat, j ≤ k ∧ i = .int .i64 ((j : Int) - 1) ∧ lastR R k n = lastR R j n) (fun i => (intOf i + 1).toNat)
  case atStart => exact ⟨k, Nat.le_refl _, rfl, rfl⟩
  case round =>
    obtain ⟨j, hj, rfl, hl⟩ := hrel
    have HL : Hid _ := hl
    clear hl
    cases j with
    | zero =>
      have q0 : ¬ (0 : Int) ≤ ((0 : Nat) : Int) - 1 := by omega
      go_wp2
      go_ret
      exact ⟨by rw [HL.out]; rfl, by go_grown⟩
    | succ j =>
      obtain ⟨rg, rc, e6, c3, c4⟩ := HR.out.1.rowAt' (show j < R.m by omega)
      rw [HR.out.2] at e6
      injection e6 with e7 _ e8
      subst e7 e8
      have ej : ((j + 1 : Nat) : Int) - 1 = (j : Int) := by omega
      rw [ej]
      have q0 : (0 : Int) ≤ (j : Int) := by omega
      have q1 : (j : Int) < (R.m : Int) := by omega
      have ws2 : IntKind.i64.wrap ((j : Int) - 1) = (j : Int) - 1 := by rw [IntWalk.i64_left, IntWalk.wrap64_in]; omega
      by_cases hw : R.wn j = n
      · have q2 : ((R.wn j : Nat) : Int) = (n : Int) := by omega
        go_wp2
        go_ret
        exact ⟨by rw [HL.out]; show _ = Ending.returned (.string (if R.wn j = n then R.C j else lastR R j n)); rw [if_pos hw]; rfl, by go_grown⟩
      · have q2 : ¬ ((R.wn j : Nat) : Int) = (n : Int) := by omega
        go_wp2
        go_round
        case rel => exact ⟨j, by omega, rfl, by rw [HL.out]; show (if R.wn j = n then R.C j else lastR R j n) = _; rw [if_neg hw]⟩
        case measure => first | (simp [intOf]; done) | (simp [intOf]; omega)
theorem rread_bad (r : Nat) (R : Rk) (n : Int) (w : World) (h : RepR w r R) (hn : n < 0 ∨ (0 ≤ n ∧ (R.n : Int) ≤ n)) : Calls Tryz.prog 142 #[.pointer (some ⟨r, 0, none⟩), .int .i64 n] w fun e w' => e = .returned (.tuple #[.string ⟨#[]⟩, .int .i64 31]) ∧ Below w.heap.size w w' := by
  obtain ⟨fa, fc, wa, wc, _, _, c0, c1, hr⟩ := h.parts
  clear h
  rcases hn with h0 | ⟨h0, h1⟩
  all_goals
    go_enter Tryz.func142, Tryz.ntmps142
    go_wp2
    go_ret2
    exact ⟨rfl, by go_grown⟩
theorem rread_good (r : Nat) (R : Rk) (n : Nat) (w : World) (h : RepR w r R) (hn : n < R.n) : Calls Tryz.prog 142 #[.pointer (some ⟨r, 0, none⟩), .int .i64 n] w fun e w' => e = .returned (.tuple #[.string (lastR R R.m n), .int .i64 0]) ∧ Below w.heap.size w w' := by
  obtain ⟨fa, fc, wa, wc, _, _, c0, c1, hr⟩ := h.parts
  have HR : Hid (RepR w r R) := h
  have j0 : (0 : Int) ≤ (n : Int) := by omega
  have j1 : (n : Int) < (R.n : Int) := by omega
  clear h
  go_enter Tryz.func142, Tryz.ntmps142
  go_wp2_with (go_at_call 52; refine (rat_any r R n R.m _ HR.out hn (Nat.le_refl _)).mono ?_; rintro e w1 ⟨rfl, hb⟩)
  go_ret2
  exact ⟨rfl, hb⟩
end Go.Proofs.YteegkhnikcioiaaGreatDoor

namespace Go.Proofs.YteegkhnikcioiaaGreatDoor
open Go.ChangeShapes Go.WideShapes Go.ChangeAt Go.RowKit
attribute [local go_sem ↓] loadSec_seal storeSec_seal eqlSec_seal zeroSec
attribute [local go_sem] loadSec_run storeSec_run rowAt_at rowAt_old rowAt_drew rowAt_drewN roomSec_new roomAt_old roomAt_drew roomAt_drewN putSec_new putRow_past rowSec_put size_put putRow_drew putRow_drewN alloc_drewN setCell_drewN sec_size

set_option linter.unusedVariables false

/-- A row of words that a call itself made. -/
structure WRow (w : World) (g n : Nat) (f : Nat → Int) : Prop where
  row : ∃ cur : Array Value, w.heap[g]? = some (.cells cur 23 (0, 0)) ∧ cur.size = n ∧ ∀ i, i < n → cur[i]? = some (.int .u32 (f i))
theorem WRow.at {w : World} {g n k : Nat} {f : Nat → Int} (h : WRow w g n f) (hk : k < n) : w.cell? ⟨g, k, none⟩ = some (.int .u32 (f k)) ∧ w.frozen? ⟨g, k, none⟩ = false := by
  obtain ⟨cur, hg, hs, hc⟩ := h.row
  refine ⟨?_, by simp [World.frozen?, hg]⟩
  rw [cell_of_row w g k cur _ (0, 0) hg, hc k hk]
theorem WRow.lt {w : World} {g n : Nat} {f : Nat → Int} (h : WRow w g n f) : g < w.heap.size := by
  obtain ⟨cur, hg, _⟩ := h.row
  rcases Nat.lt_or_ge g w.heap.size with h1 | h1
  · exact h1
  · rw [Array.getElem?_eq_none h1] at hg; cases hg
theorem WRow.same {w w' : World} {g n : Nat} {f : Nat → Int} (h : WRow w g n f) (hw : w'.heap[g]? = w.heap[g]?) : WRow w' g n f := by
  obtain ⟨cur, hg, hc⟩ := h.row
  exact ⟨cur, hw.trans hg, hc⟩
theorem WRow.set {w : World} {g n k : Nat} {f : Nat → Int} (h : WRow w g n f) (hk : k < n) (v : Int) : WRow (w.setCell ⟨g, k, none⟩ (.int .u32 v)) g n (upd f k v) := by
  obtain ⟨cur, hg, hs, hc⟩ := h.row
  refine ⟨cur.setIfInBounds k (.int .u32 v), Go.Joins.block_setCell (i := k) hg _, by simpa using hs, fun i hi => ?_⟩
  by_cases e : i = k
  · subst e; rw [upd_at]; simp [hs, hk]
  · rw [upd_ne _ _ e, Array.getElem?_setIfInBounds_ne (Ne.symm e)]; exact hc i hi
theorem WRow.ext {w : World} {g n : Nat} {f h : Nat → Int} (hr : WRow w g n f) (e : ∀ i, i < n → f i = h i) : WRow w g n h := by
  obtain ⟨cur, hg, hs, hc⟩ := hr.row
  exact ⟨cur, hg, hs, fun i hi => by rw [hc i hi, e i hi]⟩
/-- The word at a place of memory. -/
def wd (M : Nat → Int) (q : Nat) : Int := M (4 * q) + M (4 * q + 1) * 256 + M (4 * q + 2) * 65536 + M (4 * q + 3) * 16777216
theorem wd_word (M : Nat → Int) (q : Nat) {a : Int} (ha : a = ((4 * q : Nat) : Int)) : wordAt M a = wd M q := by
  subst ha
  unfold wordAt
  rw [Int.toNat_natCast]
  simp only [tgv, wd, Nat.add_zero]
  omega
structure RPh where
  mb : Nat
  rd : Nat
  R : Rk
  In : ByteArray
  pa : Option Addr
  pc : Nat
def cellsR (P : RPh) (L : Lg) : Array Value := #[.slice (some ⟨P.mb, 0, none⟩) 262144 262144, .pointer (some ⟨P.rd, 0, none⟩), .string P.In, .slice P.pa L.O.length P.pc, .int .u32 L.tk, .int .u32 L.sc, .int .u32 L.ad, .int .u32 L.cm]
def RPh.all (P : RPh) (r x : Nat) : Prop := x = r ∨ x = P.mb ∨ inB P.pa x ∨ P.R.mut P.rd x
structure RTag (t : Nat → Nat) (r : Nat) (P : RPh) : Prop where
  r : t r = 0
  mb : t P.mb = 1
  pa : ∀ x, inB P.pa x → t x = 2
  R : ∀ x, P.R.mut P.rd x → t x = 3
structure RCore (w : World) (r : Nat) (P : RPh) (L : Lg) : Prop where
  mem : WRow w P.mb 262144 (wd L.M)
  byte : ∀ i, i < 1048576 → 0 ≤ L.M i ∧ L.M i ≤ 255
  dsk : RepR w P.rd P.R
  dn : P.R.n = L.n
  dm : P.R.m = L.m
  dS : ∀ i, i < L.n → lastR P.R L.m i = strF (L.S i) 1024
  dB : ∀ i, i < L.n → ByteF (L.S i)
  inp : bytesL P.In = L.I
  out : SRow w P.pa P.pc L.O
  il : L.I.length ≤ 65536
  ol : L.O.length ≤ 65536
  tk : U32 L.tk
  sc : U32 L.sc
  ad : U32 L.ad
  cm : U32 L.cm
  tag : ∃ t, RTag t r P
  lt : ∀ x, P.all r x → x < w.heap.size
structure RBus (w : World) (r : Nat) (P : RPh) (L : Lg) : Prop extends RCore w r P L where
  blk : rowAt w r = some (cellsR P L)
  room : roomAt w r 8 = true
theorem RTag.ne {t : Nat → Nat} {r : Nat} {P : RPh} (h : RTag t r P) : r ≠ P.mb ∧ ¬ inB P.pa r ∧ ¬ P.R.mut P.rd r ∧ ¬ inB P.pa P.mb ∧ ¬ P.R.mut P.rd P.mb := by
  refine ⟨fun e => ?_, fun e => ?_, fun e => ?_, fun e => ?_, fun e => ?_⟩
  · have := h.mb; rw [← e, h.r] at this; cases this
  · have := h.pa _ e; rw [h.r] at this; cases this
  · have := h.R _ e; rw [h.r] at this; cases this
  · have := h.pa _ e; rw [h.mb] at this; cases this
  · have := h.R _ e; rw [h.mb] at this; cases this
theorem RCore.keep {w w' : World} {r : Nat} {P : RPh} {L : Lg} (h : RCore w r P L) (hs : w.heap.size ≤ w'.heap.size) (hw : ∀ x, x ≠ r → P.all r x → w'.heap[x]? = w.heap[x]?) : RCore w' r P L := by
  obtain ⟨t, ht⟩ := h.tag
  have ne := ht.ne
  exact { h with
    mem := h.mem.same (hw _ (Ne.symm ne.1) (.inr (.inl rfl)))
    dsk := h.dsk.keep hs fun x hx => hw x (fun e => ne.2.2.1 (e ▸ hx)) (.inr (.inr (.inr hx)))
    out := h.out.same fun x hx => hw x (fun e => ne.2.1 (e ▸ hx)) (.inr (.inr (.inl hx)))
    lt := fun x hx => Nat.lt_of_lt_of_le (h.lt x hx) hs }
theorem RBus.keep {w w' : World} {r : Nat} {P : RPh} {L : Lg} (h : RBus w r P L) (hs : w.heap.size ≤ w'.heap.size) (hw : ∀ x, P.all r x → w'.heap[x]? = w.heap[x]?) : RBus w' r P L :=
  { h.toRCore.keep hs fun x _ hx => hw x hx with blk := (rowAt_same (hw r (.inl rfl))).trans h.blk, room := (roomAt_same (hw r (.inl rfl))).trans h.room }
theorem RCore.put {w : World} {r : Nat} {P : RPh} {L : Lg} (h : RCore w r P L) {X : Array Value} (hX : rowAt w r = some X) (hr : roomAt w r 8 = true) (j : Nat) (v : Value) (hc : X.setIfInBounds j v = cellsR P L) : RBus (w.setCell ⟨r, j, none⟩ v) r P L := by
  have hblk := hX
  have hroom := hr
  unfold roomAt at hroom
  unfold rowAt at hblk
  split at hroom
  case h_2 => cases hroom
  rename_i Y t fr hY
  rw [hY] at hblk
  have hblk : Y = X := Option.some.inj hblk
  have hfr : fr = (0, 0) := by simp at hroom; exact hroom.2
  have hsz : Y.size = 8 := by simp at hroom; exact hroom.1
  subst hblk hfr
  have b6 := Go.Joins.block_setCell (i := j) hY v
  have hk := h.keep (w' := w.setCell ⟨r, j, none⟩ v) (by simp) fun x hx _ => Below.heap_setCell _ _ _ _ hx
  exact { hk with
    blk := by unfold rowAt; rw [b6]; exact congrArg some hc
    room := by unfold roomAt; rw [b6]; simp [hsz] }
theorem RBus.below {w w' : World} {r : Nat} {P : RPh} {L : Lg} (h : RBus w r P L) (hb : Below w.heap.size w w') : RBus w' r P L := h.keep hb.size fun x hx => hb.block x (h.lt x hx)
theorem RBus.tou {w w' : World} {r : Nat} {P : RPh} {L : Lg} {M : Nat → Prop} (h : RBus w r P L) (ht : Tou M w w') (hM : ∀ x, M x → ¬ P.all r x) : RBus w' r P L := h.keep ht.size fun x hx => ht.block x (h.lt x hx) fun hm => hM x hm hx
theorem RBus.cell {w : World} {r : Nat} {P : RPh} {L : Lg} (h : RBus w r P L) (j : Nat) : w.cell? ⟨r, j, none⟩ = (cellsR P L)[j]? := rowAt_cell h.blk j
theorem RBus.free {w : World} {r : Nat} {P : RPh} {L : Lg} (h : RBus w r P L) {j : Nat} (hj : j < 8) : w.frozen? ⟨r, j, none⟩ = false := by
  have := (room_there h.room j hj).2
  simpa using this
theorem RBus.blt {w : World} {r : Nat} {P : RPh} {L : Lg} (h : RBus w r P L) : r < w.heap.size := h.lt r (.inl rfl)
structure Eight (w : World) (r : Nat) (P : RPh) (L : Lg) : Prop where
  c0 : w.cell? ⟨r, 0, none⟩ = some (.slice (some ⟨P.mb, 0, none⟩) 262144 262144)
  c1 : w.cell? ⟨r, 1, none⟩ = some (.pointer (some ⟨P.rd, 0, none⟩))
  c2 : w.cell? ⟨r, 2, none⟩ = some (.string P.In)
  c3 : w.cell? ⟨r, 3, none⟩ = some (.slice P.pa L.O.length P.pc)
  c4 : w.cell? ⟨r, 4, none⟩ = some (.int .u32 L.tk)
  c5 : w.cell? ⟨r, 5, none⟩ = some (.int .u32 L.sc)
  c6 : w.cell? ⟨r, 6, none⟩ = some (.int .u32 L.ad)
  c7 : w.cell? ⟨r, 7, none⟩ = some (.int .u32 L.cm)
theorem RBus.eight {w : World} {r : Nat} {P : RPh} {L : Lg} (h : RBus w r P L) : Eight w r P L := ⟨h.cell 0, h.cell 1, h.cell 2, h.cell 3, h.cell 4, h.cell 5, h.cell 6, h.cell 7⟩
/-- What a step leaves. -/
structure RStp (w : World) (r : Nat) (P : RPh) (w' : World) (P' : RPh) (L' : Lg) : Prop where
  bus : RBus w' r P' L'
  tou : Tou (P.all r) w w'
  new : ∀ x, P'.all r x → P.all r x ∨ w.heap.size ≤ x
theorem RStp.put {w : World} {r : Nat} {P : RPh} {L L' : Lg} (h : RBus w r P L) (k : RCore w r P L') (j : Nat) (v : Value) (hc : (cellsR P L).setIfInBounds j v = cellsR P L') : RStp w r P (w.setCell ⟨r, j, none⟩ v) P L' :=
  ⟨k.put h.blk h.room j v hc, (Tou.refl _ _).set ⟨r, j, none⟩ (.inl rfl) _, fun _ hx => .inl hx⟩
theorem RStp.mem {w w' : World} {r : Nat} {P : RPh} {L : Lg} (h : RBus w r P L) {M' : Nat → Int} (ht : Tou (fun x => x = P.mb) w w') (hr : WRow w' P.mb 262144 (wd M')) (hb : ∀ i, i < 1048576 → 0 ≤ M' i ∧ M' i ≤ 255) : RStp w r P w' P { L with M := M' } := by
  obtain ⟨t, hg⟩ := h.tag
  have ne := hg.ne
  have old : ∀ x, x ≠ P.mb → P.all r x → w'.heap[x]? = w.heap[x]? := fun x h1 h2 => ht.block x (h.lt x h2) h1
  refine ⟨{ mem := hr, byte := hb, dsk := ?_, dn := h.dn, dm := h.dm, dS := h.dS, dB := h.dB, inp := h.inp, out := ?_, il := h.il, ol := h.ol, tk := h.tk, sc := h.sc, ad := h.ad, cm := h.cm, tag := ⟨t, hg⟩, lt := fun x hx => Nat.lt_of_lt_of_le (h.lt x hx) ht.size, blk := ?_, room := ?_ }, ⟨ht.os, ht.tape, ht.output, ht.size, fun k hk hm => ht.block k hk fun e => hm (.inr (.inl e))⟩, fun _ hx => .inl hx⟩
  · exact h.dsk.keep ht.size fun x hx => old x (fun e => ne.2.2.2.2 (e ▸ hx)) (.inr (.inr (.inr hx)))
  · exact h.out.same fun x hx => old x (fun e => ne.2.2.2.1 (e ▸ hx)) (.inr (.inr (.inl hx)))
  · exact (rowAt_same (old _ ne.1 (.inl rfl))).trans h.blk
  · exact (roomAt_same (old _ ne.1 (.inl rfl))).trans h.room
theorem RStp.refl {w : World} {r : Nat} {P : RPh} {L : Lg} (h : RBus w r P L) : RStp w r P w P L := ⟨h, Tou.refl _ _, fun _ hx => .inl hx⟩
theorem RStp.trans {w w1 w2 : World} {r : Nat} {P P1 P2 : RPh} {L1 L2 : Lg} (h : RStp w r P w1 P1 L1) (k : RStp w1 r P1 w2 P2 L2) : RStp w r P w2 P2 L2 :=
  ⟨k.bus, h.tou.trans k.tou fun x hx hn => (h.new x hn).resolve_right (by omega), fun x hx => (k.new x hx).elim (fun e => h.new x e) fun e => .inr (Nat.le_trans h.tou.size e)⟩
theorem RStp.below {w w1 : World} {r : Nat} {P : RPh} {L : Lg} (h : RBus w r P L) (hb : Below w.heap.size w w1) : RStp w r P w1 P L := ⟨h.below hb, Below.tou hb _, fun _ hx => .inl hx⟩
theorem rout_end {w w1 : World} {r : Nat} {P : RPh} {L : Lg} (h : RBus w r P L) {O' : List Int} {a' : Option Addr} {c' : Nat} (ht : Tou (inB P.pa) w w1) (hS : SRow w1 a' c' O') (hl : O'.length ≤ 65536) (ha : ∀ y, inB a' y → inB P.pa y ∨ w.heap.size ≤ y) (hlt : ∀ y, inB a' y → y < w1.heap.size) : RStp w r P (w1.setCell ⟨r, 3, none⟩ (.slice a' O'.length c')) { P with pa := a', pc := c' } { L with O := O' } := by
  obtain ⟨t, hg⟩ := h.tag
  have old : ∀ y, P.all r y → t y ≠ 2 → w1.heap[y]? = w.heap[y]? := fun y hy h4 => ht.block y (h.lt y hy) fun e => h4 (hg.pa y e)
  have hal : ∀ y, RPh.all { P with pa := a', pc := c' } r y → P.all r y ∨ w.heap.size ≤ y := by
    rintro y (e | e | e | e)
    · exact .inl (.inl e)
    · exact .inl (.inr (.inl e))
    · exact (ha y e).imp (fun e => .inr (.inr (.inl e))) id
    · exact .inl (.inr (.inr (.inr e)))
  have t4 : ∀ y, t y = 0 ∨ t y = 1 ∨ t y = 3 → t y ≠ 2 := fun y => by omega
  have hb := old r (.inl rfl) (t4 _ (.inl hg.r))
  have hc : RCore w1 r { P with pa := a', pc := c' } { L with O := O' } := { h.toRCore with
    mem := h.mem.same (old _ (.inr (.inl rfl)) (t4 _ (.inr (.inl hg.mb))))
    dsk := h.dsk.keep ht.size fun x hx => old x (.inr (.inr (.inr hx))) (t4 _ (.inr (.inr (hg.R x hx))))
    out := hS
    ol := hl
    tag := ⟨fun y => if y < w.heap.size then t y else 2, {
      r := (if_pos h.blt).trans hg.r
      mb := (if_pos (h.lt _ (.inr (.inl rfl)))).trans hg.mb
      pa := fun y hy => by
        rcases ha y hy with e | e
        · exact (if_pos (h.lt y (.inr (.inr (.inl e))))).trans (hg.pa y e)
        · exact if_neg (by omega)
      R := fun y hy => (if_pos (h.lt y (.inr (.inr (.inr hy))))).trans (hg.R y hy) }⟩
    lt := fun y hy => by
      rcases hy with e | e | e | e
      · exact Nat.lt_of_lt_of_le (h.lt y (.inl e)) ht.size
      · exact Nat.lt_of_lt_of_le (h.lt y (.inr (.inl e))) ht.size
      · exact hlt y e
      · exact Nat.lt_of_lt_of_le (h.lt y (.inr (.inr (.inr e)))) ht.size }
  have hT : Tou (P.all r) w w1 := ⟨ht.os, ht.tape, ht.output, ht.size, fun k hk hm => ht.block k hk fun e => hm (.inr (.inr (.inl e)))⟩
  exact ⟨hc.put ((rowAt_same hb).trans h.blk) ((roomAt_same hb).trans h.room) 3 _ rfl, hT.set ⟨r, 3, none⟩ (.inl rfl) _, hal⟩
theorem rdisk_end {w w1 : World} {r : Nat} {P : RPh} {L : Lg} (h : RBus w r P L) {Q : Rk} {S' : Nat → Nat → Int} {m' : Nat} (hQ : RepR w1 P.rd Q) (qn : Q.n = L.n) (qm : Q.m = m') (qS : ∀ i, i < L.n → lastR Q m' i = strF (S' i) 1024) (qB : ∀ i, i < L.n → ByteF (S' i)) (ht : Tou (P.R.mut P.rd) w w1) (hx : ∀ x, Q.mut P.rd x → P.R.mut P.rd x ∨ w.heap.size ≤ x) : RStp w r P w1 { P with R := Q } { L with S := S', m := m' } := by
  obtain ⟨t, hg⟩ := h.tag
  have old : ∀ y, P.all r y → t y ≠ 3 → w1.heap[y]? = w.heap[y]? := fun y hy h4 => ht.block y (h.lt y hy) fun e => h4 (hg.R y e)
  have hal : ∀ y, RPh.all { P with R := Q } r y → P.all r y ∨ w.heap.size ≤ y := by
    rintro y (e | e | e | e)
    · exact .inl (.inl e)
    · exact .inl (.inr (.inl e))
    · exact .inl (.inr (.inr (.inl e)))
    · exact (hx y e).imp (fun e => .inr (.inr (.inr e))) id
  have t4 : ∀ y, t y = 0 ∨ t y = 1 ∨ t y = 2 → t y ≠ 3 := fun y => by omega
  have hb := old r (.inl rfl) (t4 _ (.inl hg.r))
  refine ⟨{ h.toRCore with
    mem := h.mem.same (old _ (.inr (.inl rfl)) (t4 _ (.inr (.inl hg.mb))))
    dsk := hQ
    dn := qn
    dm := qm
    dS := qS
    dB := qB
    out := h.out.same fun x hx => old x (.inr (.inr (.inl hx))) (t4 _ (.inr (.inr (hg.pa x hx))))
    tag := ⟨fun y => if y < w.heap.size then t y else 3, {
      r := (if_pos h.blt).trans hg.r
      mb := (if_pos (h.lt _ (.inr (.inl rfl)))).trans hg.mb
      pa := fun y hy => (if_pos (h.lt y (.inr (.inr (.inl hy))))).trans (hg.pa y hy)
      R := fun y hy => by
        rcases hx y hy with e | e
        · exact (if_pos (h.lt y (.inr (.inr (.inr e))))).trans (hg.R y e)
        · exact if_neg (by omega) }⟩
    lt := fun y hy => by
      rcases hy with e | e | e | e
      · exact Nat.lt_of_lt_of_le (h.lt y (.inl e)) ht.size
      · exact Nat.lt_of_lt_of_le (h.lt y (.inr (.inl e))) ht.size
      · exact Nat.lt_of_lt_of_le (h.lt y (.inr (.inr (.inl e)))) ht.size
      · exact hQ.lt y e
    blk := (rowAt_same hb).trans h.blk
    room := (roomAt_same hb).trans h.room }, ⟨ht.os, ht.tape, ht.output, ht.size, fun k hk hm => ht.block k hk fun e => hm (.inr (.inr (.inr e)))⟩, hal⟩
end Go.Proofs.YteegkhnikcioiaaGreatDoor

namespace Go.Proofs.YteegkhnikcioiaaGreatDoor
open Go.ChangeShapes Go.WideShapes Go.ChangeAt Go.RowKit
attribute [local go_sem ↓] loadSec_seal storeSec_seal eqlSec_seal zeroSec
attribute [local go_sem] loadSec_run storeSec_run rowAt_at rowAt_old rowAt_drew rowAt_drewN roomSec_new roomAt_old roomAt_drew roomAt_drewN putSec_new putRow_past rowSec_put size_put putRow_drew putRow_drewN alloc_drewN setCell_drewN sec_size

set_option linter.unusedVariables false

theorem inside_any (a : Int) (w : World) : Calls Tryz.prog 51 #[.int .u32 a] w fun e w' => e = .returned (.bool (decide (a < 1048576))) ∧ w' = w := by
  go_enter Tryz.func51, Tryz.ntmps51
  go_wp2
  go_ret
  exact ⟨rfl, rfl⟩
theorem rtick_any (r : Nat) (P : RPh) (L : Lg) (v : Int) (w : World) (h : RBus w r P L) (v0 : 0 ≤ v) (v1 : v ≤ 4294967295) : Calls Tryz.prog 32 #[.pointer (some ⟨r, 0, none⟩), .int .u32 v] w fun e w' => e = .returned (.tuple #[]) ∧ RStp w r P w' P { L with tk := (L.tk + v) % 4294967296 } := by
  have c0 := h.eight.c4
  have f0 := h.free (j := 4) (by omega)
  have H : Hid (RBus w r P L) := h
  have t0 := h.tk.1
  have t1 := h.tk.2
  clear h
  go_enter Tryz.func32, Tryz.ntmps32
  go_wp2
  go_end0
  exact ⟨rfl, RStp.put H.out (show RCore w r P { L with tk := (L.tk + v) % 4294967296 } from { H.out.toRCore with tk := by unfold U32; simp only []; omega }) 4 _ rfl⟩
theorem rout_any (r : Nat) (P : RPh) (L : Lg) (w : World) (h : RBus w r P L) : Calls Tryz.prog 35 #[.pointer (some ⟨r, 0, none⟩)] w fun e w' => e = .returned (.string (strO L.O)) ∧ w' = w := by
  have c4 := h.eight.c3
  have hc : ∀ cap, (convert 49 9 (.slice P.pa L.O.length cap)).run Tryz.prog w = .ok (.string (strO L.O)) w := fun cap => conv_str cap (h.out.rd (by have := h.ol; unfold maxLen; omega))
  clear h
  go_enter Tryz.func35, Tryz.ntmps35
  go_wp2
  go_ret
  exact ⟨rfl, rfl⟩
theorem rsecs_any (r : Nat) (R : Rk) (w : World) (h : RepR w r R) : Calls Tryz.prog 113 #[.pointer (some ⟨r, 0, none⟩)] w fun e w' => e = .returned (.int .i64 R.n) ∧ w' = w := by
  obtain ⟨fa, fc, wa, wc, _, _, c0, _, _⟩ := h.parts
  clear h
  go_enter Tryz.func113, Tryz.ntmps113
  go_wp2
  go_ret
  exact ⟨rfl, rfl⟩
/-! Bytes of words. -/
theorem wd_byte {M : Nat → Int} {q : Nat} (h : ∀ j, j < 4 → 0 ≤ M (4 * q + j) ∧ M (4 * q + j) ≤ 255) : (wd M q % 256 = M (4 * q) ∧ wd M q / 256 % 256 = M (4 * q + 1) ∧ wd M q / 65536 % 256 = M (4 * q + 2) ∧ wd M q / 16777216 % 256 = M (4 * q + 3)) ∧ 0 ≤ wd M q ∧ wd M q ≤ 4294967295 := by
  have h0 := h 0 (by omega)
  have h1 := h 1 (by omega)
  have h2 := h 2 (by omega)
  have h3 := h 3 (by omega)
  simp only [Nat.add_zero] at h0
  unfold wd
  omega
theorem byteAt_any (r : Nat) (P : RPh) (L : Lg) (a : Nat) (w : World) (h : RBus w r P L) (ha : a < 1048576) : Calls Tryz.prog 88 #[.pointer (some ⟨r, 0, none⟩), .int .u32 a] w fun e w' => e = .returned (.int .u8 (L.M a)) ∧ w' = w := by
  obtain ⟨q, hq⟩ : ∃ q, q = a / 4 := ⟨_, rfl⟩
  have hb := wd_byte (M := L.M) (q := q) (fun j hj => h.byte (4 * q + j) (by omega))
  have c0 := h.eight.c0
  have cw := (h.mem.at (k := q) (by omega)).1
  have e1 : (a : Int) / 4 = (q : Int) := by omega
  have i0 : (0 : Int) ≤ (q : Int) := by omega
  have i1 : (q : Int) < 262144 := by omega
  have b0 := hb.2.1
  have b1 := hb.2.2
  clear h
  have hj : a = 4 * q ∨ a = 4 * q + 1 ∨ a = 4 * q + 2 ∨ a = 4 * q + 3 := by omega
  rcases hj with hj | hj | hj | hj
  · have HE : Hid (wd L.M q % 256 = L.M a) := by rw [hj]; exact hb.1.1
    have e2 : (a : Int) % 4 = 0 := by omega
    clear hb hj hq
    go_enter Tryz.func88, Tryz.ntmps88
    go_wp2
    go_ret
    exact ⟨ret_int HE.out, rfl⟩
  · have HE : Hid (wd L.M q / 256 % 256 = L.M a) := by rw [hj]; exact hb.1.2.1
    have e2 : (a : Int) % 4 = 1 := by omega
    clear hb hj hq
    go_enter Tryz.func88, Tryz.ntmps88
    go_wp2
    go_ret
    exact ⟨ret_int HE.out, rfl⟩
  · have HE : Hid (wd L.M q / 65536 % 256 = L.M a) := by rw [hj]; exact hb.1.2.2.1
    have e2 : (a : Int) % 4 = 2 := by omega
    clear hb hj hq
    go_enter Tryz.func88, Tryz.ntmps88
    go_wp2
    go_ret
    exact ⟨ret_int HE.out, rfl⟩
  · have HE : Hid (wd L.M q / 16777216 % 256 = L.M a) := by rw [hj]; exact hb.1.2.2.2
    have e2 : (a : Int) % 4 = 3 := by omega
    clear hb hj hq
    go_enter Tryz.func88, Tryz.ntmps88
    go_wp2
    go_ret
    exact ⟨ret_int (by have := HE.out; omega), rfl⟩
theorem rword_any (r : Nat) (P : RPh) (L : Lg) (a : Int) (w : World) (h : RBus w r P L) (a0 : 0 ≤ a) (a1 : a ≤ 4294967295) : Calls Tryz.prog 33 #[.pointer (some ⟨r, 0, none⟩), .int .u32 a] w fun e w' => e = .returned (.tuple #[.int .u32 (gotV L.M a), .bool (isW a)]) ∧ w' = w := by
  have c0 := h.eight.c0
  by_cases hin : a < 1048576
  · have hd : decide (a < 1048576) = true := decide_eq_true hin
    by_cases h4 : a % 4 = 0
    · obtain ⟨q, hq⟩ : ∃ q : Nat, a / 4 = (q : Int) := ⟨(a / 4).toNat, by omega⟩
      have cw := (h.mem.at (k := q) (by omega)).1
      have HE : Hid (wd L.M q = gotV L.M a ∧ isW a = true) := by
        have hw : isW a = true := by unfold isW; exact decide_eq_true ⟨h4, hin⟩
        exact ⟨by unfold gotV; rw [if_pos hw]; exact (wd_word L.M q (by omega)).symm, hw⟩
      have i0 : (0 : Int) ≤ (q : Int) := by omega
      have i1 : (q : Int) < 262144 := by omega
      clear h
      go_enter Tryz.func33, Tryz.ntmps33
      go_wp2_with (go_at_call 51; refine (inside_any _ _).mono ?_; rw [hd]; rintro e w1 ⟨rfl, hw⟩; obtain rfl := hw.symm)
      go_ret2
      exact ⟨ret2b HE.out.1 HE.out.2.symm, rfl⟩
    · have HE : Hid (isW a = false) := by show isW a = false; unfold isW; exact decide_eq_false (by omega)
      clear h
      go_enter Tryz.func33, Tryz.ntmps33
      go_wp2_with (go_at_call 51; refine (inside_any _ _).mono ?_; rw [hd]; rintro e w1 ⟨rfl, hw⟩; obtain rfl := hw.symm)
      go_ret2
      exact ⟨ret2b (by unfold gotV; rw [HE.out]; rfl) HE.out.symm, rfl⟩
  · have hd : decide (a < 1048576) = false := decide_eq_false hin
    have HE : Hid (isW a = false) := by show isW a = false; unfold isW; exact decide_eq_false (by omega)
    clear h
    go_enter Tryz.func33, Tryz.ntmps33
    go_wp2_with (go_at_call 51; refine (inside_any _ _).mono ?_; rw [hd]; rintro e w1 ⟨rfl, hw⟩; obtain rfl := hw.symm)
    go_ret2
    exact ⟨ret2b (by unfold gotV; rw [HE.out]; rfl) HE.out.symm, rfl⟩
/-- A word is laid into memory. -/
theorem wd_poke {M : Nat → Int} {q : Nat} {v : Int} (v0 : 0 ≤ v) (v1 : v ≤ 4294967295) (i : Nat) : upd (wd M) q v i = wd (partL M (4 * q) v 4) i := by
  have e : ∀ k, partL M (4 * q) v 4 (4 * i + k) = if i = q ∧ k < 4 then byteOf v k else if k < 4 then M (4 * i + k) else partL M (4 * q) v 4 (4 * i + k) := fun k => by
    by_cases h1 : i = q ∧ k < 4
    · rw [if_pos h1]; unfold partL; rw [if_pos (by omega), show 4 * i + k - 4 * q = k by omega]
    · rw [if_neg h1]
      by_cases h2 : k < 4
      · rw [if_pos h2]; unfold partL; rw [if_neg (by omega)]
      · rw [if_neg h2]
  have e0 := e 0
  have e1 := e 1
  have e2 := e 2
  have e3 := e 3
  simp only [Nat.add_zero] at e0
  by_cases hi : i = q
  · rw [if_pos ⟨hi, by omega⟩] at e0 e1 e2 e3
    rw [hi, upd_at]
    rw [hi] at e0 e1 e2 e3
    unfold wd
    rw [e0, e1, e2, e3]
    have := word_back v v0 v1
    simp only [tgv] at this
    omega
  · rw [if_neg (fun h => hi h.1), if_pos (by omega)] at e0 e1 e2 e3
    rw [upd_ne _ _ hi]
    unfold wd
    rw [e0, e1, e2, e3]
theorem rpoke_end {w : World} {r : Nat} {P : RPh} {L : Lg} (h : RBus w r P L) {q : Nat} (hq : q < 262144) {a v : Int} (ha : a = ((4 * q : Nat) : Int)) (v0 : 0 ≤ v) (v1 : v ≤ 4294967295) {X : World} (hX : X = w.setCell ⟨P.mb, q, none⟩ (.int .u32 v)) : RStp w r P X P { L with M := pokeM L.M a v } := by
  subst hX ha
  have hw : isW ((4 * q : Nat) : Int) = true := by unfold isW; exact decide_eq_true (by omega)
  have e : pokeM L.M ((4 * q : Nat) : Int) v = partL L.M (4 * q) v 4 := by unfold pokeM; rw [if_pos hw, Int.toNat_natCast]
  rw [e]
  exact RStp.mem h ((Tou.refl (fun x => x = P.mb) _).set ⟨P.mb, q, none⟩ rfl _) ((h.mem.set hq v).ext fun i _ => wd_poke v0 v1 i) (part_byte h.byte _ _ _)
theorem rpoke_any (r : Nat) (P : RPh) (L : Lg) (a v : Int) (w : World) (h : RBus w r P L) (a0 : 0 ≤ a) (a1 : a ≤ 4294967295) (v0 : 0 ≤ v) (v1 : v ≤ 4294967295) : Calls Tryz.prog 95 #[.pointer (some ⟨r, 0, none⟩), .int .u32 a, .int .u32 v] w fun e w' => e = .returned (.bool (isW a)) ∧ RStp w r P w' P { L with M := pokeM L.M a v } := by
  have c0 := h.eight.c0
  have H : Hid (RBus w r P L) := h
  by_cases hin : a < 1048576
  · have hd : decide (a < 1048576) = true := decide_eq_true hin
    by_cases h4 : a % 4 = 0
    · obtain ⟨q, hq⟩ : ∃ q : Nat, a / 4 = (q : Int) := ⟨(a / 4).toNat, by omega⟩
      have cw := h.mem.at (k := q) (by omega)
      obtain ⟨cw, cf⟩ := cw
      have HW : Hid (isW a = true ∧ a = ((4 * q : Nat) : Int)) := ⟨by unfold isW; exact decide_eq_true ⟨h4, hin⟩, by omega⟩
      have i0 : (0 : Int) ≤ (q : Int) := by omega
      have i1 : (q : Int) < 262144 := by omega
      clear h
      go_enter Tryz.func95, Tryz.ntmps95
      go_wp2_with (go_at_call 51; refine (inside_any _ _).mono ?_; rw [hd]; rintro e w1 ⟨rfl, hw⟩; obtain rfl := hw.symm)
      go_ret
      exact ⟨ret_bool HW.out.1.symm, rpoke_end H.out (by omega) HW.out.2 v0 v1 rfl⟩
    · have HE : Hid (isW a = false) := by show isW a = false; unfold isW; exact decide_eq_false (by omega)
      clear h
      go_enter Tryz.func95, Tryz.ntmps95
      go_wp2_with (go_at_call 51; refine (inside_any _ _).mono ?_; rw [hd]; rintro e w1 ⟨rfl, hw⟩; obtain rfl := hw.symm)
      go_ret
      refine ⟨ret_bool HE.out.symm, ?_⟩
      have e : pokeM L.M a v = L.M := by unfold pokeM; rw [HE.out]; rfl
      rw [e]; exact RStp.refl H.out
  · have hd : decide (a < 1048576) = false := decide_eq_false hin
    have HE : Hid (isW a = false) := by show isW a = false; unfold isW; exact decide_eq_false (by omega)
    clear h
    go_enter Tryz.func95, Tryz.ntmps95
    go_wp2_with (go_at_call 51; refine (inside_any _ _).mono ?_; rw [hd]; rintro e w1 ⟨rfl, hw⟩; obtain rfl := hw.symm)
    go_ret
    refine ⟨ret_bool HE.out.symm, ?_⟩
    have e : pokeM L.M a v = L.M := by unfold pokeM; rw [HE.out]; rfl
    rw [e]; exact RStp.refl H.out
end Go.Proofs.YteegkhnikcioiaaGreatDoor

namespace Go.Proofs.YteegkhnikcioiaaGreatDoor
open Go.ChangeShapes Go.WideShapes Go.ChangeAt Go.RowKit
attribute [local go_sem ↓] loadSec_seal storeSec_seal eqlSec_seal zeroSec
attribute [local go_sem] loadSec_run storeSec_run rowAt_at rowAt_old rowAt_drew rowAt_drewN roomSec_new roomAt_old roomAt_drew roomAt_drewN putSec_new putRow_past rowSec_put size_put putRow_drew putRow_drewN alloc_drewN setCell_drewN sec_size

set_option linter.unusedVariables false
set_option linter.unusedVariables false

theorem rcF_size (f : Nat → Int) (n : Nat) : (strF f n).size = n := by rw [strF, strOfNums_size]; simp
theorem strCells_row {f : Nat → Int} {n : Nat} (h : ∀ i, i < n → 0 ≤ f i ∧ f i ≤ 255) : Lib.strCells (strF f n) = rowOf f n := by
  have e2 : (strF f n).data.toList = ((List.range n).map f).map fun n => UInt8.ofNat n.toNat := strOfNums_data _
  unfold Lib.strCells rowOf
  rw [e2, List.map_map, List.map_map]
  apply List.map_congr_left
  intro i hi
  have hb := h i (List.mem_range.1 hi)
  simp
  omega
set_option maxHeartbeats 4000000 in
set_option maxRecDepth 20000 in
theorem rcut_good (r : Nat) (R : Rk) (k : Nat) (S : Nat → Nat → Int) (w : World) (h : RepR w r R) (hk : k ≤ R.m) (n0 : 8 ≤ R.n) (hS : ∀ i, i < R.n → lastR R k i = strF (S i) 1024 ∧ ByteF (S i)) : Calls Tryz.prog 34 #[.pointer (some ⟨r, 0, none⟩), .int .i64 k] w fun e w' => e = .returned (.tuple #[.string (strF (imgF S) (R.n * 1024)), .int .i64 0]) ∧ Below w.heap.size w w' := by
  obtain ⟨i0, hi, hz0, hz1, hz2⟩ := info_parts info5
  obtain ⟨fa, fc, wa, wc, e1, e2, c0, c1, hr⟩ := h.parts
  have hn := h.n1
  have HR : Hid (∀ X, Below w.heap.size w X → RepR X r R ∧ X.cell? ⟨r, 0, none⟩ = some (.slice fa R.n fc)) := fun X hX => ⟨h.below hX, by rw [← e1]; exact (h.below hX).cell0.1⟩
  have HS : Hid (∀ i, i < R.n → lastR R k i = strF (S i) 1024 ∧ ByteF (S i)) := hS
  have j0 : (0 : Int) ≤ (k : Int) := by omega
  have j1 : (k : Int) ≤ (R.m : Int) := by omega
  have j2 : ¬ R.m < k := by omega
  have j3 : decide (R.m < k) = false := decide_eq_false j2
  have j4 : ¬ (k : Int) < 0 := by omega
  clear h e1 e2 hS
  go_enter Tryz.func34, Tryz.ntmps34
  go_wp2
  go_loopw [6, 7] (fun v i X => ∃ j : Nat, j ≤ R.n ∧ i = .int .i64 j ∧ X.ownsRow w.heap.size 5 1 v (j * 1024) (rowOf (imgF S) (j * 1024)) ∧ Below w.heap.size w X) (fun _ i _ => R.n - (intOf i).toNat)
  case atStart => exact ⟨0, by omega, rfl, by rw [Nat.zero_mul]; exact World.ownsRow_nil _ _ _ _, Below.refl _ _⟩
  case round =>
    rename_i v i
    obtain ⟨j, hj, rfl, hown, hb⟩ := hrel
    have HO : Hid (World.ownsRow wr w.heap.size 5 1 _ (j * 1024) (rowOf (imgF S) (j * 1024))) := hown
    have HB : Hid (Below w.heap.size w wr) := hb
    have c2 := (HR.out _ hb).2
    by_cases hlt : j < R.n
    · have q0 : (0 : Int) ≤ (j : Int) := by omega
      have q1 : (j : Int) < (R.n : Int) := by omega
      clear hown hb
      go_wp2_with (first
        | (go_at_call 52; refine (rat_any r R j k _ (HR.out _ HB.out).1 hlt hk).mono ?_; rintro e w1 ⟨he, hb1⟩; rw [(HS.out j hlt).1] at he; obtain rfl := he; have H1 : Hid (Below wr.heap.size wr w1) := hb1; clear hb1)
        | (at_builtin; refine Lib.wpList_append_own_string _ rfl _ _ 49 9 rfl w.heap.size 5 i0 Tryz.underlying49 Tryz.underlying9 hi hz0 hz1 hz2 _ (j * 1024) (rowOf (imgF S) (j * 1024)) rfl (own_same HO.out (fun x hx => H1.out.block x (World.ownsRow.lt HO.out x hx).2)) (strF (S j) 1024) rfl (by rw [rcF_size]; unfold maxLen; omega) (by rw [rcF_size]; omega) (by have := HB.out.size; have := H1.out.size; omega) ?_; intro v5 w5 hown hgrow hnil; have HO5 : Hid (w5.ownsRow w.heap.size 5 1 v5 ((j + 1) * 1024) (rowOf (imgF S) ((j + 1) * 1024))) := (by rw [rcF_size, strCells_row (HS.out j hlt).2, img_grow] at hown; rw [show (j + 1) * 1024 = j * 1024 + 1024 by omega]; exact hown); have HB5 : Hid (Below w.heap.size w w5) := (HB.out.trans (H1.out.mono HB.out.size)).grown hgrow (by have := HB.out.size; have := H1.out.size; omega) (fun x hx => (World.ownsRow.lt HO.out x hx).1); clear hown hgrow hnil))
      go_roundw
      case rel => first | exact ⟨j + 1, by omega, by go_num, HO5.out, HB5.out⟩ | exact ⟨v5, .int .i64 ((j : Int) + 1), _, _, _, _, _, _, _, _, _, _, _, _, _, _, _, ⟨j + 1, by omega, by go_num, HO5.out, HB5.out⟩, rfl⟩
      case measure => simp [intOf]; omega
    · have hjn : j = R.n := by omega
      subst hjn
      rcases HO.out.2 with ⟨ev, e0⟩ | ⟨g, cap, cur, ev, _, hg, _⟩
      · omega
      · subst ev
        have hx := conv_str (f := imgF S) (len := R.n * 1024) cap (own_rd HO.out (by unfold maxLen; omega) (fun i hi => (HS.out (i / 1024) (by omega)).2 (i % 1024) (by omega)))
        clear hown hb hg
        go_wp2
        go_ret2
        exact ⟨rfl, HB.out⟩
end Go.Proofs.YteegkhnikcioiaaGreatDoor
