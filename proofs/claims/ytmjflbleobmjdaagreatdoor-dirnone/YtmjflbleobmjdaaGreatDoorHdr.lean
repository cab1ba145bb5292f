/-
  Layer 17: the program's readRoot and readHeader.
-/
import Derived.Test.YtmjflbleobmjdaaGreatDoorSec
namespace Go.Proofs.YtmjflbleobmjdaaGreatDoor
set_option linter.unusedVariables false
set_option linter.unusedSimpArgs false
open Go.ChangeShapes Go.WideShapes Go.ChangeAt Go.RowKit
attribute [local go_sem ↓] loadSec_seal storeSec_seal eqlSec_seal zeroSec
attribute [local go_sem] loadSec_run storeSec_run rowAt_at rowAt_old rowAt_drew rowAt_drewN roomSec_new roomAt_old roomAt_drew roomAt_drewN putSec_new putRow_past rowSec_put size_put putRow_drew putRow_drewN alloc_drewN setCell_drewN sec_size

set_option linter.unusedVariables false

set_option maxHeartbeats 2000000 in
theorem sectorsIn_none (a : Option Addr) (len cap : Nat) (w : World) :
    Calls Tryz.prog 43 #[.slice a len cap, .int .i64 0] w fun e w' => ∃ v, e = .returned v ∧ OwI w' w.heap.size v [] ∧ Below w.heap.size w w' := by
  obtain ⟨i0, hi, hz0, hz1, hz2⟩ := Tryz.info3p
  go_enter Tryz.func43, Tryz.ntmps43
  go_wp2_with (at_make; refine wpList_make_full _ rfl _ _ 49 rfl w.heap.size 3 i0 (.int .i64 0) 1 Tryz.underlying49 hi hz0 hz1 .i64 .i64 _ _ 0 rfl rfl (by omega) (by omega) (by rw [hz2]; omega) (by unfold maxLen; omega) (Nat.le_refl _) ?_; intro w2 hown2 hgrow2; have HF := hidD (fillV_own (f := fun _ => 0) (FillV.start (fun _ => .int .i64 0) hown2 hgrow2) (by omega)); have HB := hidD ((Below.refl _ w).grown hgrow2 (Nat.le_refl _) (fun k hk => by cases hk)); clear hown2 hgrow2)
  go_loopw [11] (fun i X => i = .int .i64 0 ∧ X = w2) (fun i _ => 0)
  case atStart => exact ⟨rfl, rfl⟩
  case round =>
    obtain ⟨rfl, hX⟩ := hrel
    obtain rfl := hX.symm
    go_wp2
    go_ret
    exact ⟨_, rfl, HF.out, HB.out⟩
def RrP (w : World) (r : Option (List Int)) (e : Ending) (w' : World) : Prop := match r with
  | some l => ∃ v, e = .returned (.tuple #[v, .bool true]) ∧ OwI w' w.heap.size v l
  | none => ∃ v, e = .returned (.tuple #[v, .bool false]) ∧ OwI w' w.heap.size v []
theorem some_nat {m : Int} (h : 0 ≤ m) : ∃ k : Nat, m = (k : Int) := Int.eq_ofNat_of_zero_le h
set_option maxHeartbeats 4000000 in
theorem readRoot_any (d : Nat) (D : Dk) (w : World) (h : Rep w d D) :
    Calls Tryz.prog 54 #[.pointer (some ⟨d, 0, none⟩)] w fun e w' => RrP w (rootP D.n D.S) e w' ∧ Below w.heap.size w w' := by
  have n0 := h.n0
  have HB0 := hidD (h.secS 0 (by omega)).2
  have HM := hidD (readMarked_any d D 0 rootM 7 w h (by omega))
  unfold rootP
  cases hm : markedP D.n D.S 0 rootM 7 with
  | none =>
    rw [hm] at HM
    clear hm h n0
    go_enter Tryz.func54, Tryz.ntmps54
    go_wp2_with (first
      | (go_at_call 42; refine HM.out.mono ?_; rintro e w1 ⟨he, hb⟩; unfold RmP at he; subst he; have HB := hidD hb; clear hb)
      | (go_at_call 43; refine (sectorsIn_none _ _ _ _).mono ?_; rintro e w2 ⟨v, rfl, ho, hb⟩; have HO := hidD ho; have HB2 := hidD hb; clear ho hb))
    go_ret2
    exact ⟨⟨v, rfl, HO.out.base HB.out.size⟩, HB.out.trans (HB2.out.mono HB.out.size)⟩
  | some m =>
    have hm2 := marked_le hm
    have hb := wdF_bd HB0.out (i := 1) (by omega)
    obtain ⟨k, rfl⟩ := some_nat (m := m) (by have := hm2.2.2.2.1; simp at this; omega)
    have hk : k ≤ 7 := by have := hm2.2.2.2.2; omega
    rw [hm] at HM
    have HS := hidD (fun X a (hX : RdB X a 1024 (D.S 0)) => sectorsIn_any a 1024 (D.S 0) k X hX (by omega))
    clear hm hm2 hb h n0
    go_enter Tryz.func54, Tryz.ntmps54
    go_wp2_with (first
      | (go_at_call 42; refine HM.out.mono ?_; rintro e w1 ⟨he, hb⟩; unfold RmP at he; obtain ⟨g, rfl, hg, _⟩ := he; have HG := hidD hg; have HB := hidD hb; clear hb hg)
      | (go_at_call 43; refine (HS.out _ _ HG.out).mono ?_; rintro e w2 ⟨v, rfl, ho, hb⟩; have HO := hidD ho; have HB2 := hidD hb; clear ho hb))
    go_ret2
    exact ⟨⟨v, rfl, HO.out.base HB.out.size⟩, HB.out.trans (HB2.out.mono HB.out.size)⟩
theorem bcell {W w1 : World} (hb : Below W.heap.size W w1) : (∀ b o, b < W.heap.size → w1.cell? ⟨b, o, none⟩ = W.cell? ⟨b, o, none⟩) ∧ (∀ b o, b < W.heap.size → w1.frozen? ⟨b, o, none⟩ = W.frozen? ⟨b, o, none⟩) :=
  ⟨fun b o h => hb.cell (p := ⟨b, o, none⟩) h, fun b o h => hb.frozen (p := ⟨b, o, none⟩) h⟩
def HdP (w : World) (nm : ByteArray) (h len : Int) (r : Option (List Int)) (e : Ending) (w' : World) : Prop := match r with
  | some l => ∃ v, e = .returned (.tuple #[.agg #[.string nm, .int .i64 h, .int .i64 len, v], .bool true]) ∧ OwI w' w.heap.size v l
  | none => e = .returned (.tuple #[.agg #[.string ⟨#[]⟩, .int .i64 0, .int .i64 0, .slice none 0 0], .bool false])
theorem below_two {w w1 : World} {o1 o2 : Obj} (hb : Below ((w.alloc o1).alloc o2).heap.size ((w.alloc o1).alloc o2) w1) : Below w.heap.size w w1 :=
  (((Below.refl _ w).alloc (Nat.le_refl _) o1).alloc (by simp) o2).trans (hb.mono (by simp; omega))
theorem below_four {w w1 : World} {B g : Nat} (h : Below B w w1) (hg : B ≤ g) (a b c d : Value) : Below B w ((((w1.setCell ⟨g, 0, none⟩ a).setCell ⟨g, 1, none⟩ b).setCell ⟨g, 2, none⟩ c).setCell ⟨g, 3, none⟩ d) :=
  (((h.setCell hg a).setCell hg b).setCell hg c).setCell hg d
def appN (t : Array TypeId) (r : TypeId) (xs : Array Value) : Sem Value := Builtin.append_ t r xs
theorem appN_seal (t : Array TypeId) (r : TypeId) (xs : Array Value) : Builtin.append_ t r xs = appN t r xs := rfl
/-- A row of one, and a row put behind it. -/
theorem app_one {X : World} {B : Nat} {v : Value} {l : List Int} (h : Int) (ho : OwI X B v l) (hl : l.length ≤ 900000) :
    ∃ g n c Y, (appN #[49, 49] 49 #[.slice (some ⟨X.heap.size, 0, none⟩) 1 1, v]).run Tryz.prog (X.alloc (.cells #[.int .i64 h] 3)).drew = .ok (.slice (some ⟨g, 0, none⟩) n c) Y ∧ OwI Y X.heap.size (.slice (some ⟨g, 0, none⟩) n c) (h :: l) ∧ Below X.heap.size X Y := by
  have ho1 : OwI (X.alloc (.cells #[.int .i64 h] 3)).drew X.heap.size (.slice (some ⟨X.heap.size, 0, none⟩) 1 1) [h] :=
    OwI.mk (l := [h]) (Nat.le_refl _) (heap_alloc_last X _) (Nat.le_refl _) (by unfold maxLen; decide) rfl rfl
  have hb : Below X.heap.size X (X.alloc (.cells #[.int .i64 h] 3)).drew := ((Below.refl _ X).alloc (Nat.le_refl _) _).drew
  obtain ⟨v', Y, hr, ho2, hg⟩ := app_row (A := fun b => B ≤ b) 49 49 Tryz.underlying49 ho1 ((ho.row (by omega)).below hb) (by simp) (by simp; omega)
  rcases ho2.cases with ⟨_, h0⟩ | ⟨g, c, _, rfl, _⟩
  · cases h0
  · exact ⟨g, _, c, Y, hr, ho2, grown_below hb hg (fun x hx => (ho1.lt x hx).1) hb.size⟩
/-- What two boxes that were laid hold in a world that has grown. -/
theorem box_two {w w1 w2 : World} {a0 a1 a2 b0 b1 b2 b3 : Value} {t u : TypeId} (h1 : Below ((w.alloc (.cells #[a0, a1, a2] t)).alloc (.cells #[b0, b1, b2, b3] u)).heap.size ((w.alloc (.cells #[a0, a1, a2] t)).alloc (.cells #[b0, b1, b2, b3] u)) w1) (h2 : Below w1.heap.size w1 w2) :
    (w2.cell? ⟨w.heap.size, 0, none⟩ = some a0 ∧ w2.cell? ⟨w.heap.size, 1, none⟩ = some a1 ∧ w2.cell? ⟨w.heap.size, 2, none⟩ = some a2) ∧ (w2.cell? ⟨w.heap.size + 1, 0, none⟩ = some b0 ∧ w2.cell? ⟨w.heap.size + 1, 1, none⟩ = some b1 ∧ w2.cell? ⟨w.heap.size + 1, 2, none⟩ = some b2 ∧ w2.cell? ⟨w.heap.size + 1, 3, none⟩ = some b3) ∧ (∀ o, w2.frozen? ⟨w.heap.size + 1, o, none⟩ = false) := by
  obtain ⟨c1, f1⟩ := bcell h1
  obtain ⟨c2, f2⟩ := bcell h2
  have s1 := h1.size
  have z : ((w.alloc (.cells #[a0, a1, a2] t)).alloc (.cells #[b0, b1, b2, b3] u)).heap.size = w.heap.size + 2 := by simp
  rw [z] at s1
  refine ⟨⟨?_, ?_, ?_⟩, ⟨?_, ?_, ?_, ?_⟩, fun o => ?_⟩
  all_goals first | rw [c2 _ _ (by omega), c1 _ _ (by omega)] | rw [f2 _ _ (by omega), f1 _ _ (by omega)]
  all_goals simp [go_sem]
theorem own_four {w1 : World} {B g : Nat} {v : Value} {l : List Int} (h : OwI w1 B v l) (hg : ∀ x, v.ownBlock = some x → x ≠ g) (a b c d : Value) : OwI ((((w1.setCell ⟨g, 0, none⟩ a).setCell ⟨g, 1, none⟩ b).setCell ⟨g, 2, none⟩ c).setCell ⟨g, 3, none⟩ d) B v l :=
  h.same fun x hx => by
    have hne := hg x hx
    rw [Below.heap_setCell _ _ _ _ hne, Below.heap_setCell _ _ _ _ hne, Below.heap_setCell _ _ _ _ hne, Below.heap_setCell _ _ _ _ hne]
attribute [local go_sem ↓] appN_seal
set_option maxHeartbeats 4000000 in
theorem readHeader_any (d : Nat) (D : Dk) (nm : ByteArray) (hd len : Int) (w : World) (hR : Rep w d D) :
    Calls Tryz.prog 20 #[.pointer (some ⟨d, 0, none⟩), .agg #[.string nm, .int .i64 hd, .int .i64 len]] w fun e w' => HdP w nm hd len (headP D.n D.S hd len) e w' ∧ Below w.heap.size w w' := by
  have HM := hidD (fun X (hX : Below w.heap.size w X) => readMarked_any d D hd headM 256000 X (hR.below hX) (by omega))
  unfold headP
  cases hm : markedP D.n D.S hd headM 256000 with
  | none =>
    rw [hm] at HM
    clear hm hR
    go_enter Tryz.func20, Tryz.ntmps20
    go_wp2_with (go_at_call 42; refine (HM.out _ (by go_grown)).mono ?_; rintro e w1 ⟨he, hb⟩; unfold RmP at he; subst he; have HB := hidD (below_two hb); obtain ⟨hc, hf⟩ := bcell hb; have hz : w.heap.size + 1 < w1.heap.size := Nat.lt_of_lt_of_le (by simp) hb.size; clear hb)
    exact bodyPost_ret (v := .tuple #[.agg #[.string ⟨#[]⟩, .int .i64 0, .int .i64 0, .slice none 0 0], .bool false]) (by simp [results, Tryz.results20, go_sem, hc, hz]) rfl ⟨rfl, below_four HB.out (by omega) _ _ _ _⟩
  | some m =>
    have hm2 := marked_le hm
    have hB0 := (hR.secS hd.toNat (by omega)).2
    have hb := wdF_bd hB0 (i := 1) (by omega)
    have hm0 : 0 ≤ m ∧ m ≤ 256000 := by
      have h1 := hm2.2.2.2.1
      have h2 := hm2.2.2.2.2
      omega
    obtain ⟨k, rfl⟩ := some_nat hm0.1
    have hk : k ≤ 256000 := by omega
    rw [hm] at HM
    have hpc := pieces_le hm0.1 hm0.2
    have HS := hidD (fun X a (z : Int) (hX : RdB X a 1024 (D.S hd.toNat)) (hz : z = ((pieces k : Nat) : Int)) => hz ▸ sectorsIn_any a 1024 (D.S hd.toNat) (pieces k) X hX (by omega))
    have hq : ((pieces k : Nat) : Int) = ((k : Int) + 1024 - 1) / 1024 := by unfold pieces; omega
    clear hm hm2 hb hB0 hR hm0
    by_cases he : (k : Int) = len
    · have d0 : ((k : Int) == len) = true := by simpa using he
      have d0' : ((k : Int) != len) = false := by simpa using he
      simp only [if_pos he]
      have HE := hidD he
      clear he
      go_enter Tryz.func20, Tryz.ntmps20
      go_wp2_with (first
        | (go_at_call 42; refine (HM.out _ (by go_grown)).mono ?_; rintro e w1 ⟨he, hb⟩; unfold RmP at he; obtain ⟨g, rfl, hg, _⟩ := he; have HG := hidD hg; have HB := hidD (below_two hb); have HB0 := hidD hb; obtain ⟨hc, hf⟩ := bcell hb; have hz : w.heap.size + 1 < w1.heap.size := Nat.lt_of_lt_of_le (by simp) hb.size; clear hb hg)
        | (go_at_call 43; refine (HS.out _ _ _ HG.out (by omega)).mono ?_; rintro e w2 ⟨v, rfl, ho, hb⟩; have HO := hidD ho; have HB2 := hidD hb; obtain ⟨⟨e0, e1, e2⟩, ⟨r0, r1, r2, r3⟩, r4⟩ := box_two HB0.out hb; have hz2 : w.heap.size + 1 < w2.heap.size := Nat.lt_of_lt_of_le hz hb.size; obtain ⟨g5, n5, c5, Y5, hr5, ho5, hb5⟩ := app_one hd ho (by rw [wordsP_len]; omega); have HO5 := hidD ho5; have HB5 := hidD hb5; obtain ⟨hc5, hf5⟩ := bcell hb5; have hz3 : w.heap.size < w2.heap.size := Nat.lt_of_succ_lt hz2; have q0 := (hc5 _ _ hz3).trans e0; have q1 := (hc5 _ _ hz3).trans e1; have q2 := (hc5 _ _ hz3).trans e2; have s0 := (hc5 _ _ hz2).trans r0; have s1 := (hc5 _ _ hz2).trans r1; have s2 := (hc5 _ _ hz2).trans r2; have s3 := (hc5 _ _ hz2).trans r3; have s4 := fun o => (hf5 (w.heap.size + 1) o hz2).trans (r4 o); clear hb ho ho5 hb5 hc hf hc5 hf5))
      go_region
      have hY : w2.heap.size ≤ Y5.heap.size := HB5.out.size
      have b1 := HB.out.trans (HB2.out.mono HB.out.size)
      have b5 := b1.trans (HB5.out.mono b1.size)
      all_goals
        go_wp2
        exact bodyPost_ret (v := .tuple #[.agg #[.string nm, .int .i64 hd, .int .i64 len, .slice (some ⟨g5, 0, none⟩) n5 c5], .bool true]) (by simp [results, Tryz.results20, go_sem, s0, s1, s2, s3, hz2]) rfl
          ⟨⟨_, rfl, own_four (HO5.out.base (by have := b1.size; omega)) (fun x hx => by have := (HO5.out.lt x hx).1; omega) _ _ _ _⟩, below_four b5 (by omega) _ _ _ _⟩
    · have d0 : ((k : Int) == len) = false := by simpa using he
      have d0' : ((k : Int) != len) = true := by simpa using he
      simp only [if_neg he]
      clear he
      go_enter Tryz.func20, Tryz.ntmps20
      go_wp2_with (first
        | (go_at_call 42; refine (HM.out _ (by go_grown)).mono ?_; rintro e w1 ⟨he, hb⟩; unfold RmP at he; obtain ⟨g, rfl, hg, _⟩ := he; have HG := hidD hg; have HB := hidD (below_two hb); obtain ⟨hc, hf⟩ := bcell hb; have hz : w.heap.size + 1 < w1.heap.size := Nat.lt_of_lt_of_le (by simp) hb.size; clear hb hg))
      exact bodyPost_ret (v := .tuple #[.agg #[.string ⟨#[]⟩, .int .i64 0, .int .i64 0, .slice none 0 0], .bool false]) (by simp [results, Tryz.results20, go_sem, hc, hz]) rfl ⟨rfl, below_four HB.out (by omega) _ _ _ _⟩
end Go.Proofs.YtmjflbleobmjdaaGreatDoor
