/-
  The pair of buses that the law makes, where both can be made.
-/
import Derived.Test.YtbkkjnafnckleaaPairs
namespace Go.Proofs.Ytbkkjnafnckleaa
open Go.ChangeShapes Go.WideShapes Go.ChangeAt Go.RowKit
attribute [local go_sem ↓] loadSec_seal storeSec_seal eqlSec_seal zeroSec
attribute [local go_sem] loadSec_run storeSec_run rowAt_at rowAt_old rowAt_drew rowAt_drewN roomSec_new roomAt_old roomAt_drew roomAt_drewN putSec_new putRow_past rowSec_put size_put putRow_drew putRow_drewN alloc_drewN setCell_drewN sec_size

set_option linter.unusedVariables false

/-- Both buses hold the same, and a row stands apart from both. -/
structure INV (b r g : Nat) (w X : World) : Prop where
  ex : ∃ P L Q, Duo w b P L r Q L X ∧ ¬ P.all b g ∧ ¬ Q.all r g
theorem INV.same {b r g : Nat} {w X : World} (h : INV b r g w X) : Same w b r X := by
  obtain ⟨P, L, Q, hD, _, _⟩ := h.ex
  exact ⟨P, L, Q, hD⟩
theorem INV.set {b r g : Nat} {w X : World} (h : INV b r g w X) (hg : w.heap.size ≤ g) (k : Nat) (v : Value) : INV b r g w (X.setCell ⟨g, k, none⟩ v) := by
  obtain ⟨P, L, Q, hD, h1, h2⟩ := h.ex
  have ht : Tou (fun x => x = g) X (X.setCell ⟨g, k, none⟩ v) := (Tou.refl (fun x => x = g) X).set ⟨g, k, none⟩ rfl v
  exact ⟨P, L, Q, ⟨hD.own.tou ht fun x hx => ⟨by rw [hx]; exact hg, by rw [hx]; exact h1⟩, hD.ref.tou ht fun x hx => by rw [hx]; exact h2, hD.all, hD.ap⟩, h1, h2⟩
theorem INV.drew {b r g : Nat} {w X : World} (h : INV b r g w X) (n : Nat) : INV b r g w (X.drewN n) := by
  obtain ⟨P, L, Q, hD, h1, h2⟩ := h.ex
  exact ⟨P, L, Q, hD.next (drewNB X n), h1, h2⟩
theorem pair_inv {w w1 w2 w4 w5 w6 : World} {db b r rd len : Nat} {D : Dk} {R : Rk} {P : Ph} {Q : RPh} {L : Lg} {F : Nat → Int} (hD : Rep w1 db D) (hfr : D.fresh db w.heap.size) (hR : RepR w2 rd R) (hmu : ∀ x, R.mut rd x → w1.heap.size ≤ x) (hb2 : Below w1.heap.size w1 w2) (hW : WRow w4 w2.heap.size (len + 3) F) (hb4 : Below w2.heap.size w2 w4) (hB : Bus w5 b P L) (hall : ∀ x, P.all b x → (D.mut db x ∨ D.fix x) ∨ w4.heap.size ≤ x) (hb5 : Below w4.heap.size w4 w5) (hQ : RBus w6 r Q L) (hqall : ∀ x, Q.all r x → R.mut rd x ∨ w5.heap.size ≤ x) (hb6 : Below w5.heap.size w5 w6) (hw5 : Below w.heap.size w w5) : INV b r w2.heap.size w w6 := by
  have z1 := hb2.size
  have z2 := hb4.size
  have z3 := hb5.size
  have zg := hW.lt
  have z0 : w.heap.size ≤ w1.heap.size := by
    have a := hD.lt db (.inl (.inl rfl))
    have c := hfr db (.inl (.inl rfl))
    omega
  refine ⟨P, L, Q, ⟨⟨hB.below hb6, fun x hx => ?_, hw5.trans (hb6.mono hw5.size)⟩, hQ, fun x hx => ?_, fun x hx hq => ?_⟩, fun hx => ?_, fun hq => ?_⟩
  · rcases hall x hx with e | e
    · exact hfr x e
    · omega
  · rcases hqall x hx with e | e
    · have := hmu x e; omega
    · omega
  · rcases hall x hx with e | e
    · have a := hD.lt x e
      rcases hqall x hq with f | f
      · have := hmu x f; omega
      · omega
    · have a := hB.lt x hx
      rcases hqall x hq with f | f
      · have := hR.lt x f; omega
      · omega
  · rcases hall _ hx with e | e
    · have a := hD.lt _ e; omega
    · omega
  · rcases hqall _ hq with f | f
    · have := hR.lt _ f; omega
    · omega
theorem INV.bus {b r g : Nat} {w X : World} (h : INV b r g w X) : Bus X b (Classical.choose h.ex) (Classical.choose (Classical.choose_spec h.ex)) := by
  have e := Classical.choose_spec (Classical.choose_spec h.ex)
  obtain ⟨Q, hD, _⟩ := e
  exact hD.own.bus
set_option maxHeartbeats 2000000 in
set_option maxRecDepth 20000 in
theorem pair_ok (a : Option Addr) (len cap N : Nat) (f : Nat → Int) (w : World) (n0 : 8 ≤ N) (n1 : N ≤ 1024) (hr : RdW w a len f) (hlen : len ≤ 35184372087808) (hl : len ≤ 262144) : Calls Try.prog 9 #[.slice a len cap, .int .i64 N] w fun e w' => ∃ b r, e = .returned (.tuple #[.pointer (some ⟨b, 0, none⟩), .pointer (some ⟨r, 0, none⟩), .bool true]) ∧ Same w b r w' := by
  have HR : Hid (RdW w a len f) := hr
  clear hr
  have hN0 : (8 : Int) ≤ (N : Int) := by omega
  go_enter Try.func9, Try.ntmps9
  go_wp2_with (first
    | (go_at_call 15; refine (new_some N _ n0 n1).mono ?_; rintro e w1 ⟨db, D, rfl, hR, hn, hm, hS, hF, hfr, hb1⟩; have HD : Hid (Rep w1 db D ∧ D.n = N ∧ D.m = 0 ∧ D.S = (fun _ _ => 0) ∧ D.fresh db w.heap.size ∧ Below w.heap.size w w1) := ⟨hR, hn, hm, hS, hfr, hb1⟩; clear hR hn hm hS hF hfr hb1)
    | (go_at_call 28; refine (rnew_some N _ n0 n1).mono ?_; rintro e w2 ⟨rd, R, rfl, hR, hn, hm, hF, hmu, hb2⟩; have HE : Hid (RepR w2 rd R ∧ R.n = N ∧ R.m = 0 ∧ (∀ i, i < N → R.F i = strF (fun _ => 0) 1024) ∧ (∀ x, R.mut rd x → w1.heap.size ≤ x) ∧ Below w1.heap.size w1 w2) := ⟨hR, hn, hm, hF, hmu, hb2⟩; obtain ⟨w3, w4, hr3, hr4, hW4, hb4⟩ := lent_setup (cap := cap) HR.out hlen (HD.out.2.2.2.2.2.trans (hb2.mono HD.out.2.2.2.2.2.size)); have HM : Hid ((Instr.makeSlice 22 (.int .i64 (len : Int)) (.int .i64 ((len : Int) + 3))).run Try.prog w2 = .ok (.slice (some ⟨w2.heap.size, 0, none⟩) len (len + 3)) w3) := hr3; have HW : Hid (WRow w4 w2.heap.size (len + 3) (lentF f len 0) ∧ Below w2.heap.size w2 w4) := ⟨hW4, hb4⟩; clear hR hn hm hF hmu hb2 hr3 hW4 hb4)
    | (at_make; refine wpList_make_eq rfl _ _ _ rfl _ _ _ _ rfl rfl HM.out ?_)
    | (go_at_call 16; refine (new_bus _ len _ db f D _ (HD.out.1.below (HE.out.2.2.2.2.2.trans (HW.out.2.mono HE.out.2.2.2.2.2.size))) hl (HW.out.1.rd (by omega) (by unfold maxLen; omega) (fun i hi => ⟨by unfold lentF; rw [if_neg (c := i < 0) (by omega), if_pos hi], HR.out.bd i hi⟩))).mono ?_; rintro e w5 ⟨b, P, rfl, hB, hdb, hD, hall, hb5⟩; have HB : Hid (Bus w5 b P (Lg.new f len D) ∧ (∀ x, P.all b x → (D.mut db x ∨ D.fix x) ∨ w4.heap.size ≤ x) ∧ Below w4.heap.size w4 w5) := ⟨hB, hall, hb5⟩; have HW5 : Hid (Below w.heap.size w w5) := by { have e1 := HD.out.2.2.2.2.2; have e2 := e1.trans (HE.out.2.2.2.2.2.mono e1.size); have e3 := e2.trans (HW.out.2.mono e2.size); exact e3.trans (hb5.mono e3.size) }; clear hB hdb hD hall hb5)
    | (go_at_call 29; refine (rbnew_bus a len _ rd f R D _ (HE.out.1.below (HW.out.2.trans (HB.out.2.2.mono HW.out.2.size))) (by rw [HE.out.2.1, HD.out.2.1]) (by rw [HE.out.2.2.1, HD.out.2.2.1]) (fun i hi => by rw [HD.out.2.2.1, HD.out.2.2.2.1]; exact HE.out.2.2.2.1 i (by rw [← HD.out.2.1]; exact hi)) (fun i _ => by rw [HD.out.2.2.2.1]; exact byte0) hl (HR.out.below HW5.out)).mono ?_; rintro e w6 ⟨r, rfl, Q, hQ, hqall, hb6⟩; have HQ : Hid (INV b r w2.heap.size w w6) := pair_inv HD.out.1 HD.out.2.2.2.2.1 HE.out.1 HE.out.2.2.2.2.1 HE.out.2.2.2.2.2 HW.out.1 HW.out.2 HB.out.1 HB.out.2.1 HB.out.2.2 hQ hqall hb6 HW5.out; have HW6 : Hid (WRow w6 w2.heap.size (len + 3) (lentF f len 0) ∧ Below w.heap.size w w6) := ⟨HW.out.1.same ((hb6.block _ (Nat.lt_of_lt_of_le HW.out.1.lt HB.out.2.2.size)).trans (HB.out.2.2.block _ HW.out.1.lt)), HW5.out.trans (hb6.mono HW5.out.size)⟩; clear hQ hqall hb6)
    | (go_at_call 13; refine (disk_any b _ _ _ HQ.out.bus).mono ?_; rintro e w7 ⟨rfl, hw⟩; obtain rfl := hw.symm))
  have HP : Hid (PrRel w w2.heap.size len f (INV b r w2.heap.size w) 0 w6) := ⟨HW6.out.1, HQ.out, HW6.out.2, Nat.le_trans HD.out.2.2.2.2.2.size HE.out.2.2.2.2.2.size⟩
  go_loopw [16] (fun i X => ∃ k : Nat, k ≤ len ∧ i = .int .i64 k ∧ PrRel w w2.heap.size len f (INV b r w2.heap.size w) k X) (fun i _ => len - (intOf i).toNat)
  case atStart => exact ⟨0, Nat.zero_le _, rfl, HP.out⟩
  case round =>
    obtain ⟨k, hk, rfl, hX⟩ := hrel
    have HX : Hid (PrRel w w2.heap.size len f (INV b r w2.heap.size w) k wr) := hX
    clear hX HP
    by_cases hlt : k < len
    · obtain ⟨g, off, rfl, hc, f0, f1⟩ := HR.out.at hlt
      have hgl := World.block_lt_of_cell? _ _ hc
      simp only [] at hgl
      have hc' : wr.cell? ⟨g, off + k, none⟩ = some (.int .u32 (f k)) := (World.cell?_of_block (HX.out.below.block g hgl)).trans hc
      have hv : lentF f len k k = f k := by unfold lentF; rw [if_neg (by omega), if_pos hlt]
      have hl1 := (HX.out.row.at (k := k) (by omega)).1
      have hl2 := (HX.out.row.at (k := k) (by omega)).2
      rw [hv] at hl1
      have j0 : (0 : Int) ≤ (k : Int) := by omega
      have j1 : (k : Int) < (len : Int) := by omega
      clear hc hgl hv
      go_wp2
      go_quiet (fail)
      go_wp2
      go_roundw
      case rel => exact ⟨k + 1, by omega, by go_num, HX.out.next hlt (fun X v h => h.set (Nat.le_trans HD.out.2.2.2.2.2.size HE.out.2.2.2.2.2.size) _ v) (fun X n h => h.drew n) _⟩
      case measure => simp [intOf]; omega
    · have j1 : ¬ (k : Int) < (len : Int) := by omega
      go_wp2
      go_ret3
      exact ⟨b, r, rfl, HX.out.inv.same⟩
end Go.Proofs.Ytbkkjnafnckleaa
