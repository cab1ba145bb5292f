/-
  The pair of buses that the law makes; what a bus that is none answers.
-/
import Derived.Test.YtbkkjnafnckleaaHeld
import Derived.Test.YtbkkjnafnckleaaRBNew
namespace Go.Proofs.Ytbkkjnafnckleaa
open Go.ChangeShapes Go.WideShapes Go.ChangeAt Go.RowKit
attribute [local go_sem ↓] loadSec_seal storeSec_seal eqlSec_seal zeroSec
attribute [local go_sem] loadSec_run storeSec_run rowAt_at rowAt_old rowAt_drew rowAt_drewN roomSec_new roomAt_old roomAt_drew roomAt_drewN putSec_new putRow_past rowSec_put size_put putRow_drew putRow_drewN alloc_drewN setCell_drewN sec_size

set_option linter.unusedVariables false

theorem wpList_make_eq {P : Program} {w : World} {ops : Array Oper} {rest : List Oper} {o : Oper} {a : Act} {Q : Exit → Act → World → Prop} (hg : o.guard = none) (l c : Operand) (t : TypeId) (hop : o.op = Op.makeSlice t l c) (L C r : Value) (w' : World) (hl : a.eval l = L) (hc : a.eval c = C)
    (hr : (Instr.makeSlice t L C).run P w = .ok r w') (hK : wpList P ops Q rest (a.put o.dst r) w') : wpList P ops Q (o :: rest) a w := by
  refine wpList_plain hg fun K hK' => ?_
  unfold Oper.wp
  simp [execOp, hop, hl, hc, hr, Result.andThen]
  exact hK' _ _ hK
theorem make_lent (W : World) (len : Nat) (hl : len ≤ 35184372087808) : ∃ w2, (Instr.makeSlice 22 (.int .i64 (len : Int)) (.int .i64 ((len : Int) + 3))).run Try.prog W = .ok (.slice (some ⟨W.heap.size, 0, none⟩) len (len + 3)) w2 ∧ WRow w2 W.heap.size (len + 3) (fun _ => 0) ∧ Below W.heap.size W w2 := by
  obtain ⟨i0, hi, hz0, hz1, hz2⟩ := info_parts info30
  have e := run_make (P := Try.prog) W 22 30 i0 (.int .u32 0) Try.underlying22 hi hz0 .i64 .i64 (len : Int) ((len : Int) + 3) (by omega) (by omega) (by rw [hz2]; omega) (by omega)
  rw [hz1, Nat.mul_one, show ((len : Int) + 3).toNat = len + 3 by omega, Int.toNat_natCast] at e
  have em : madeCells (Value.int .u32 0).cells (len + 3) = (List.replicate (len + 3) (.int .u32 0)).toArray := by
    apply Array.ext'
    simpa [Value.cells] using toList_madeCells_one (.int .u32 0) (len + 3)
  rw [em] at e
  exact ⟨_, e, ⟨_, heap_alloc_last W _, by simp, fun i hi => by simp [hi]⟩, (Below.refl _ W).alloc (Nat.le_refl _) _⟩
theorem WRow.rd {w : World} {g n : Nat} {f : Nat → Int} (h : WRow w g n f) {len : Nat} (hl : len ≤ n) (hn : len ≤ maxLen) {F : Nat → Int} (hf : ∀ i, i < len → f i = F i ∧ 0 ≤ F i ∧ F i ≤ 4294967295) : RdW w (some ⟨g, 0, none⟩) len F :=
  ⟨hn, .inr ⟨g, 0, rfl, fun i hi => ⟨by rw [Nat.zero_add, (h.at (k := i) (by omega)).1, (hf i hi).1], (hf i hi).2⟩⟩⟩
/-- What the lent row holds behind k rounds. -/
def lentF (f : Nat → Int) (len k i : Nat) : Int := if i < k then 77 else if i < len then f i else 0
theorem lent_next (f : Nat → Int) (len k : Nat) : upd (lentF f len k) k 77 = lentF f len (k + 1) := by
  funext i
  by_cases e : i = k
  · subst e; rw [upd_at]; unfold lentF; rw [if_pos (by omega)]
  · rw [upd_ne _ _ e]; unfold lentF
    by_cases h : i < k
    · rw [if_pos h, if_pos (by omega)]
    · rw [if_neg h, if_neg (c := i < k + 1) (by omega)]
theorem lent_setup {w w2 : World} {a : Option Addr} {len cap : Nat} {f : Nat → Int} (hr : RdW w a len f) (hl : len ≤ 35184372087808) (hb : Below w.heap.size w w2) : ∃ w3 w4, (Instr.makeSlice 22 (.int .i64 (len : Int)) (.int .i64 ((len : Int) + 3))).run Try.prog w2 = .ok (.slice (some ⟨w2.heap.size, 0, none⟩) len (len + 3)) w3 ∧ (Builtin.copy_ #[22, 22] 3 #[.slice (some ⟨w2.heap.size, 0, none⟩) len (len + 3), .slice a len cap]).run Try.prog w3 = .ok (.int .i64 len) w4 ∧ WRow w4 w2.heap.size (len + 3) (lentF f len 0) ∧ Below w2.heap.size w2 w4 := by
  obtain ⟨w3, hr3, hW3, hb3⟩ := make_lent w2 len hl
  obtain ⟨w4, hr4, hW4, ht4⟩ := copy_words hW3 len (len + 3) a len cap (Nat.le_refl _) (by omega) (hr.below (hb.trans (hb3.mono hb.size)))
  exact ⟨w3, w4, hr3, hr4, hW4.ext (fun i _ => by unfold lentF; rw [if_neg (c := i < 0) (by omega)]), hb3.trans (ht4.below hb3.size fun x hx => Nat.le_of_eq hx.symm)⟩
/-- What is kept while the lent row is spoilt. -/
structure PrRel (w : World) (g len : Nat) (f : Nat → Int) (I : World → Prop) (k : Nat) (X : World) : Prop where
  row : WRow X g (len + 3) (lentF f len k)
  inv : I X
  below : Below w.heap.size w X
  gw : w.heap.size ≤ g
theorem PrRel.next {w X : World} {g len k : Nat} {f : Nat → Int} {I : World → Prop} (h : PrRel w g len f I k X) (hk : k < len) (hI : ∀ X v, I X → I (X.setCell ⟨g, k, none⟩ v)) (hd : ∀ X n, I X → I (X.drewN n)) (n : Nat) : PrRel w g len f I (k + 1) ((X.drewN n).setCell ⟨g, k, none⟩ (.int .u32 77)) := by
  have e := (h.row.same (w' := X.drewN n) rfl).set (k := k) (by omega) 77
  rw [lent_next] at e
  exact ⟨e, hI _ _ (hd X n h.inv), (bdrewN h.below n).setCell h.gw _, h.gw⟩
theorem pair_none (n : Int) (v : Value) (w : World) (h : isSizeB n = false) : Calls Try.prog 9 #[v, .int .i64 n] w fun e w' => e = .returned (.tuple #[.pointer none, .pointer none, .bool true]) ∧ Below w.heap.size w w' := by
  go_enter Try.func9, Try.ntmps9
  go_wp2_with (first
    | (go_at_call 15; refine (new_none _ _ h).mono ?_; rintro e w1 ⟨rfl, hb1⟩)
    | (go_at_call 28; refine (rnew_none _ _ h).mono ?_; rintro e w2 ⟨rfl, hb2⟩))
  go_ret3
  exact ⟨rfl, hb1.trans (hb2.mono hb1.size)⟩
set_option maxHeartbeats 2000000 in
set_option maxRecDepth 20000 in
theorem pair_many (a : Option Addr) (len cap N : Nat) (f : Nat → Int) (w : World) (n0 : 8 ≤ N) (n1 : N ≤ 1024) (hr : RdW w a len f) (hlen : len ≤ 35184372087808) (hl : 262144 < len) : Calls Try.prog 9 #[.slice a len cap, .int .i64 N] w fun e w' => e = .returned (.tuple #[.pointer none, .pointer none, .bool true]) ∧ Below w.heap.size w w' := by
  have HR : Hid (RdW w a len f) := hr
  clear hr
  have hN0 : (8 : Int) ≤ (N : Int) := by omega
  go_enter Try.func9, Try.ntmps9
  go_wp2_with (first
    | (go_at_call 15; refine (new_some N _ n0 n1).mono ?_; rintro e w1 ⟨db, D, rfl, hR, hn, hm, hS, hF, hfr, hb1⟩; have HD : Hid (Rep w1 db D ∧ D.n = N ∧ D.m = 0 ∧ D.S = (fun _ _ => 0) ∧ D.fresh db w.heap.size ∧ Below w.heap.size w w1) := ⟨hR, hn, hm, hS, hfr, hb1⟩; clear hR hn hm hS hF hfr hb1)
    | (go_at_call 28; refine (rnew_some N _ n0 n1).mono ?_; rintro e w2 ⟨rd, R, rfl, hR, hn, hm, hF, hmu, hb2⟩; have HE : Hid (RepR w2 rd R ∧ R.n = N ∧ R.m = 0 ∧ (∀ i, i < N → R.F i = strF (fun _ => 0) 1024) ∧ (∀ x, R.mut rd x → w1.heap.size ≤ x) ∧ Below w1.heap.size w1 w2) := ⟨hR, hn, hm, hF, hmu, hb2⟩; obtain ⟨w3, w4, hr3, hr4, hW4, hb4⟩ := lent_setup (cap := cap) HR.out hlen (HD.out.2.2.2.2.2.trans (hb2.mono HD.out.2.2.2.2.2.size)); have HM : Hid ((Instr.makeSlice 22 (.int .i64 (len : Int)) (.int .i64 ((len : Int) + 3))).run Try.prog w2 = .ok (.slice (some ⟨w2.heap.size, 0, none⟩) len (len + 3)) w3) := hr3; have HW : Hid (WRow w4 w2.heap.size (len + 3) (lentF f len 0) ∧ Below w2.heap.size w2 w4) := ⟨hW4, hb4⟩; clear hR hn hm hF hmu hb2 hr3 hW4 hb4)
    | (at_make; refine wpList_make_eq rfl _ _ _ rfl _ _ _ _ rfl rfl HM.out ?_)
    | (go_at_call 16; refine (new_many _ len _ db _ hl).mono ?_; rintro e w5 ⟨rfl, hw⟩; obtain rfl := hw.symm)
    | (go_at_call 29; refine (rbnew_many _ len _ rd _ hl).mono ?_; rintro e w6 ⟨rfl, hw⟩; obtain rfl := hw.symm))
  have HP : Hid (PrRel w w2.heap.size len f (fun _ => True) 0 w4) := ⟨HW.out.1, trivial, (HD.out.2.2.2.2.2.trans (HE.out.2.2.2.2.2.mono HD.out.2.2.2.2.2.size)).trans (HW.out.2.mono (Nat.le_trans HD.out.2.2.2.2.2.size HE.out.2.2.2.2.2.size)), Nat.le_trans HD.out.2.2.2.2.2.size HE.out.2.2.2.2.2.size⟩
  go_loopw [16] (fun i X => ∃ k : Nat, k ≤ len ∧ i = .int .i64 k ∧ PrRel w w2.heap.size len f (fun _ => True) k X) (fun i _ => len - (intOf i).toNat)
  case atStart => exact ⟨0, Nat.zero_le _, rfl, HP.out⟩
  case round =>
    obtain ⟨k, hk, rfl, hX⟩ := hrel
    have HX : Hid (PrRel w w2.heap.size len f (fun _ => True) k wr) := hX
    clear hX HP
    by_cases hlt : k < len
    · obtain ⟨g, off, rfl, hc, f0, f1⟩ := HR.out.at hlt
      have hgl := World.block_lt_of_cell? _ _ hc
      simp only [] at hgl
      have hc' : wr.cell? ⟨g, off + k, none⟩ = some (.int .u32 (f k)) := (World.cell?_of_block (HX.out.below.block g hgl)).trans hc
      have hv : lentF f len k k = f k := by unfold lentF; rw [if_neg (by omega), if_pos hlt]
      have hl1 := (HX.out.row.at (k := k) (by omega)).1
      have hl2 := (HX.out.row.at (k := k) (by omega)).2
      rw [hv] at hl1
      have j0 : (0 : Int) ≤ (k : Int) := by omega
      have j1 : (k : Int) < (len : Int) := by omega
      clear hc hgl hv
      go_wp2
      go_quiet (fail)
      go_wp2
      go_roundw
      case rel => exact ⟨k + 1, by omega, by go_num, HX.out.next hlt (fun _ _ _ => trivial) (fun _ _ _ => trivial) _⟩
      case measure => simp [intOf]; omega
    · have j1 : ¬ (k : Int) < (len : Int) := by omega
      go_wp2
      go_ret3
      exact ⟨rfl, HX.out.below⟩
end Go.Proofs.Ytbkkjnafnckleaa
