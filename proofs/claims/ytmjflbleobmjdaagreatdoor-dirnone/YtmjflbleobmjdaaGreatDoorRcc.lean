/-
  Layer 17: rising rows: Grow, Concat, with.
-/
import Derived.Test.YtmjflbleobmjdaaGreatDoorRsg
import Derived.Lib.AppendZerosOnto
namespace Go.Proofs.YtmjflbleobmjdaaGreatDoor
set_option linter.unusedVariables false
set_option linter.unusedSimpArgs false
open Go.ChangeShapes Go.WideShapes Go.ChangeAt Go.RowKit

/-- A row is put behind one of the call's own. -/
theorem app_row {A : Nat → Prop} {X : World} {B : Nat} {v x : Value} {m l : List Int} (t ty : TypeId) (ht : Tryz.prog.underlying t = some (.slice 3)) (h : OwI X B v m) (hx : RowI A X x l) (hB : B ≤ X.heap.size) (hn : m.length + l.length ≤ 1000000) :
    ∃ v' Y, (Builtin.append_ #[t, t] ty #[v, x]).run Tryz.prog X = .ok v' Y ∧ OwI Y B v' (m ++ l) ∧ X.grownBy Y v.ownBlock := by
  obtain ⟨i0, hi, hz0, hz1, hz2⟩ := Tryz.info3p
  obtain ⟨hl, a, c, rfl, h1, h2, h3⟩ := hx
  have ofEmpty : ∀ (p : Option Addr), l = [] → ∃ v' Y, (Builtin.append_ #[t, t] ty #[v, .slice p 0 c]).run Tryz.prog X = .ok v' Y ∧ OwI Y B v' (m ++ l) ∧ X.grownBy Y v.ownBlock := by
    intro p he
    subst he
    refine ⟨v, X, ?_, by rw [List.append_nil]; exact h, rfl, rfl, rfl, Nat.le_refl _, fun _ _ _ => rfl⟩
    have hf : (Builtin.firstCells i0.size 0 (.slice p 0 c)).run Tryz.prog X = .ok #[] X := by
      cases p <;> simp [Builtin.firstCells, loadCells, loadCellsFrom]
    rcases h.cases with ⟨rfl, rfl⟩ | ⟨g, cc, cur, rfl, hb, hg, k1, k2, k3, k4⟩
    · simp [Builtin.append_, run_underlying ht, sizeOf, typeInfo, hi, Builtin.lenOf, hf]
    · simp [Builtin.append_, run_underlying ht, sizeOf, typeInfo, hi, Builtin.lenOf, hf, k1, storeCells]
  by_cases he : l = []
  · have := ofEmpty a he
    subst he
    exact this
  · obtain ⟨b, off, rfl, hA, hb, hc⟩ := h3 he
    obtain ⟨v', Y, hr, ho, hg, _, _⟩ := run_append_own_at (P := Tryz.prog) X B t ty 3 i0 (.int .i64 0) 1 8 ht hi hz0 hz1 hz2 rfl (by decide) v m.length (ints m) h ⟨b, off, none⟩ l.length c (ints l) (by rw [ints_len, Nat.mul_one]) (fun j u hj => by
      have hjl : j < l.length := by have := (List.getElem?_eq_some_iff.1 hj).1; rwa [ints_len] at this
      rw [Addr.add_mid, hc j hjl, ← hj, ints_at l hjl]) (ints_one l) (by unfold maxLen; omega) (by omega) hB
    exact ⟨v', Y, hr, by unfold OwI; rw [List.length_append, ints_app]; exact ho, hg⟩
set_option maxHeartbeats 4000000 in
set_option maxRecDepth 100000 in
theorem grow_any (w : World) (n : Nat) (hn : n ≤ 1000000) : Calls Tryz.prog 74 #[.slice none 0 0, .int .i64 n] w fun e w' => ∃ v, e = .returned v ∧ OwI w' w.heap.size v [] ∧ Below w.heap.size w w' := by
  have d1 : decide ((n : Int) < 0) = false := decide_eq_false (by omega)
  have e1 : IntKind.i64.wrap ((n : Int) - 0) = (n : Int) := by rw [IntWalk.i64_left, IntWalk.wrap64_in] <;> omega
  by_cases h0 : n = 0
  · have d2 : decide ((n : Int) > 0) = false := decide_eq_false (by omega)
    have d3 : decide (0 < (n : Int)) = false := decide_eq_false (by omega)
    subst h0
    go_enter Tryz.func74, Tryz.ntmps74
    go_wp2
    go_ret
    exact ⟨_, rfl, OwI.nil _ _, Below.refl _ _⟩
  · have d2 : decide ((n : Int) > 0) = true := decide_eq_true (by omega)
    have d3 : decide (0 < (n : Int)) = true := decide_eq_true (by omega)
    obtain ⟨i0, hi0, hz0, hs0, hb0⟩ := Tryz.info3p
    have hfit : Builtin.nextslicecap (0 + n) 0 * i0.bytes ≤ 281474976710656 := by
      rw [hb0]
      unfold Builtin.nextslicecap
      rw [if_pos (by omega)]
      omega
    have hold : (Builtin.firstCells i0.size 0 (.slice none 0 0)).run Tryz.prog w.drew = .ok ([] : List Value).toArray w.drew := by
      simp [Builtin.firstCells]
    have hrz := Lib.run_append_grow_zeros (P := Tryz.prog) w 50 3 50 3 i0 _ .i64 .i64 Tryz.underlying50 Tryz.underlying3 hi0 hz0 none 0 0 [] hold n (by omega) (by omega) (by omega) (by omega) (by rw [hb0]; omega) hfit
    rw [Nat.zero_add] at hrz
    have hcm := grownCap_le_maxLen w n 0 3 (by unfold maxLen; omega)
    have hge := grownCap_ge w n 0 3
    generalize hG : grownCap w n 0 3 = G at *
    have hcz : (Value.int .i64 0).cells.size = 1 := rfl
    generalize hC : (([] : List Value).toArray ++ Builtin.zeroCells (Value.int .i64 0).cells n ++ Builtin.zeroCells (Value.int .i64 0).cells (G - n)) = cur at *
    have hcs : cur.size = G * 1 := by
      rw [← hC]
      simp only [Array.size_append, List.size_toArray, size_zeroCells, hcz, List.length_nil]
      omega
    have HO : Hid ((w.drew.alloc (.cells cur 3)).ownsRow w.heap.size 3 1 (.slice (some ⟨w.heap.size, 0, none⟩) 0 G) 0 []) := hidD (World.ownsRow_made w.drew cur G (Nat.le_refl _) hcm hcs)
    have hG63 : G ≤ 9223372036854775807 := by unfold maxLen at hcm; omega
    clear hold hfit hi0 hz0 hb0 hs0 hC hcs hG hcz hge hcm
    go_enter Tryz.func74, Tryz.ntmps74
    go_wp2_with (at_builtin; refine Lib.wpList_append_run _ rfl _ _ _ _ rfl _ _ rfl rfl _ _ hrz ?_)
    go_ret
    exact ⟨_, rfl, HO.out, (Below.refl _ _).drew.alloc (Nat.le_refl _) _⟩
/-- What is known of the two rows and of the slice of them, in a world that has grown. -/
structure CcI (A A' : Nat → Prop) (w : World) (g : Nat) (v1 v2 : Value) (l1 l2 : List Int) (X : World) : Prop where
  c0 : X.cell? ⟨g, 0, none⟩ = some v1
  c1 : X.cell? ⟨g, 1, none⟩ = some v2
  r1 : RowI A X v1 l1
  r2 : RowI A' X v2 l2
  below : Below w.heap.size w X
theorem CcI.next {A A' : Nat → Prop} {w X Y : World} {g : Nat} {v1 v2 : Value} {l1 l2 : List Int} (h : CcI A A' w g v1 v2 l1 l2 X) (hb : Below X.heap.size X Y) : CcI A A' w g v1 v2 l1 l2 Y :=
  ⟨(hb.cell (p := ⟨g, 0, none⟩) (World.block_lt_of_cell? X _ h.c0)).trans h.c0, (hb.cell (p := ⟨g, 1, none⟩) (World.block_lt_of_cell? X _ h.c1)).trans h.c1, h.r1.below hb, h.r2.below hb, h.below.trans (hb.mono h.below.size)⟩
def upto2 (l1 l2 : List Int) (k : Nat) : List Int := if k = 0 then [] else if k = 1 then l1 else l1 ++ l2
set_option maxHeartbeats 4000000 in
set_option maxRecDepth 20000 in
theorem concat_any {A A' : Nat → Prop} (g : Nat) (v1 v2 : Value) (l1 l2 : List Int) (w : World) (h : CcI A A' w g v1 v2 l1 l2 w) (hn : l1.length + l2.length ≤ 1000000) :
    Calls Tryz.prog 51 #[.slice (some ⟨g, 0, none⟩) 2 2] w fun e w' => ∃ v, e = .returned v ∧ OwI w' w.heap.size v (l1 ++ l2) ∧ Below w.heap.size w w' := by
  have HC := hidD h
  obtain ⟨c0, c1, r1, r2, _⟩ := h
  obtain ⟨_, a1, p1, rfl, _⟩ := r1
  obtain ⟨_, a2, p2, rfl, _⟩ := r2
  have n1 : (l1.length : Int) ≤ 1000000 := by omega
  have n2 : (l2.length : Int) ≤ 1000000 := by omega
  go_enter Tryz.func51, Tryz.ntmps51
  go_wp2
  go_loopg [3, 11] 2 (fun gf s3 s11 wx => ∃ k : Nat, s11 = .int .i64 (k : Int) ∧ k + gf = 2 ∧ wx = w ∧ s3 = .int .i64 ((upto2 l1 l2 k).length : Nat))
  case atStart => exact ⟨0, rfl, by omega, rfl, rfl⟩
  case round =>
    obtain ⟨k, rfl, hk, hww, h3⟩ := hrel
    obtain rfl := hww.symm
    have hk3 : k = 0 ∨ k = 1 ∨ k = 2 := by omega
    rcases hk3 with rfl | rfl | rfl
    · obtain ⟨g', rfl⟩ : ∃ g', gk = g' + 1 := ⟨gk - 1, by omega⟩
      have e3 : (upto2 l1 l2 0).length = 0 := rfl
      rw [e3] at h3
      subst h3
      go_wp2
      go_roundg g'
      case measure => omega
      case rel => exact ⟨1, rfl, by omega, rfl, by simp [upto2]⟩
    · obtain ⟨g', rfl⟩ : ∃ g', gk = g' + 1 := ⟨gk - 1, by omega⟩
      have e3 : (upto2 l1 l2 1).length = l1.length := rfl
      rw [e3] at h3
      subst h3
      go_wp2
      go_roundg g'
      case measure => omega
      case rel => exact ⟨2, rfl, by omega, rfl, by simp [upto2]⟩
    · have e3 : (upto2 l1 l2 2).length = l1.length + l2.length := by simp [upto2]
      rw [e3] at h3
      subst h3
      have HG := hidD (fun X => grow_any X (l1.length + l2.length) hn)
      clear hk
      go_wp2_with (go_at_call 74; refine (HG.out _).mono ?_; rintro e w1 ⟨v6, rfl, ho1, hb1⟩; have HO := hidD ho1; have HC1 := hidD (HC.out.next hb1); have HB1 := hidD hb1; clear ho1 hb1)
      have u79 := Tryz.underlying50
      go_loopw [6, 27] (fun s6 s27 X => ∃ (k : Nat) (v : Value), s6 = v ∧ k ≤ 2 ∧ s27 = .int .i64 (k : Int) ∧ OwI X w.heap.size v (upto2 l1 l2 k) ∧ Below w.heap.size w X) (fun _ i _ => 2 - (intOf i).toNat)
      case atStart => exact ⟨0, _, rfl, by omega, rfl, HO.out, HB1.out⟩
      case round =>
        obtain ⟨k, v, hv6, hk2, rfl, hO, hB⟩ := hrel
        obtain rfl := hv6.symm
        have hk3 : k = 0 ∨ k = 1 ∨ k = 2 := by omega
        have hI := HC.out.next hB
        clear HO HC1 HB1
        rcases hk3 with rfl | rfl | rfl
        · obtain ⟨v', Y, hr, ho, hg⟩ := app_row (A := A) 50 50 u79 hO hI.r1 hI.below.size (by simp [upto2]; omega)
          have HO2 := hidD ho
          have HB2 := hidD (grown_below hB hg (fun x hx => (hO.lt x hx).1) hB.size)
          have c0 := hI.c0
          clear hI hO ho hg hB
          go_wp2_with (at_builtin; refine Lib.wpList_append_run _ rfl _ _ _ _ rfl _ _ rfl rfl _ _ hr ?_)
          go_roundw
          case rel => exact ⟨1, _, rfl, by omega, by go_num, HO2.out, HB2.out⟩
          case measure => simp [intOf]
        · obtain ⟨v', Y, hr, ho, hg⟩ := app_row (A := A') 50 50 u79 hO hI.r2 hI.below.size (by simp [upto2]; omega)
          have HO2 := hidD ho
          have HB2 := hidD (grown_below hB hg (fun x hx => (hO.lt x hx).1) hB.size)
          have c1 := hI.c1
          clear hI hO ho hg hB
          go_wp2_with (at_builtin; refine Lib.wpList_append_run _ rfl _ _ _ _ rfl _ _ rfl rfl _ _ hr ?_)
          go_roundw
          case rel => exact ⟨2, _, rfl, by omega, by go_num, HO2.out, HB2.out⟩
          case measure => simp [intOf]
        · have HO2 := hidD hO
          have HB2 := hidD hB
          clear hO hB hI
          go_wp2
          go_ret
          exact ⟨_, rfl, HO2.out, HB2.out⟩
theorem with_len (l s : List Int) : (withP l s).length ≤ l.length + s.length := by
  unfold withP
  refine Nat.le_trans (Lib.compact_length_le _) ?_
  rw [List.length_mergeSort, List.length_append]; omega
set_option maxHeartbeats 4000000 in
/-- with. -/
theorem with_any {A A' : Nat → Prop} (v sv : Value) (l s : List Int) (w : World) (h : RowI A w v l) (hs : RowI A' w sv s) (hn : l.length + s.length ≤ 1000000) : Calls Tryz.prog 27 #[v, sv] w fun e w' => ∃ v', e = .returned v' ∧ OwI w' w.heap.size v' (withP l s) ∧ Below w.heap.size w w' := by
  have HV := hidD h
  have HS := hidD hs
  obtain ⟨_, a0, c0, rfl, _⟩ := h
  obtain ⟨_, a1, c1, rfl, _⟩ := hs
  have HC := hidD (fun X (hX : Below w.heap.size w X) (h0 : X.cell? ⟨w.heap.size, 0, none⟩ = some (.slice a0 l.length c0)) (h1 : X.cell? ⟨w.heap.size, 1, none⟩ = some (.slice a1 s.length c1)) => concat_any w.heap.size (.slice a0 l.length c0) (.slice a1 s.length c1) l s X ⟨h0, h1, HV.out.below hX, HS.out.below hX, Below.refl _ _⟩ hn)
  have HN := hidD hn
  clear hn
  go_enter Tryz.func27, Tryz.ntmps27
  go_wp2_with (first
    | (go_at_call 51; refine (HC.out _ ((Below.refl _ _).alloc (Nat.le_refl _) _) (by simp) (by simp)).mono ?_; rintro e w1 ⟨v1, rfl, ho1, hb1⟩; have HO1 := hidD (ho1.base (B' := w.heap.size) (by simp)); have HB1 := hidD (((Below.refl _ _).alloc (Nat.le_refl _) _).trans (hb1.mono (by simp)) : Below w.heap.size w w1); have HL1 := hidD (show (l ++ s).length ≤ 1000000 by rw [List.length_append]; exact HN.out); clear ho1 hb1)
    | (go_at_call 52; refine (sort_any HO1.out HL1.out).mono ?_; rintro e w2 ⟨rfl, ho2, hg2⟩; have HO2 := hidD ho2; have HB2 := hidD (grown_below HB1.out hg2 (fun x hx => (HO1.out.lt x hx).1) HB1.out.size); have HL2 := hidD (show ((l ++ s).mergeSort fun x y => decide (x ≤ y)).length ≤ 1000000 by rw [List.length_mergeSort]; exact HL1.out); clear ho2 hg2)
    | (go_at_call 53; refine (compact_any HO2.out HL2.out).mono ?_; rintro e w3 ⟨v3, rfl, ho3, hg3⟩; have HO3 := hidD ho3; have HB3 := hidD (grown_below HB2.out hg3 (fun x hx => (HO2.out.lt x hx).1) HB2.out.size); clear ho3 hg3))
  go_ret
  exact ⟨v3, rfl, HO3.out, HB3.out⟩
end Go.Proofs.YtmjflbleobmjdaaGreatDoor
