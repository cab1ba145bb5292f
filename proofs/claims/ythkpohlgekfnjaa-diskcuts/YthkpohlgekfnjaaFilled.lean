/-
  A step's bytes; how many sectors a disk has; its writes in order.
-/
import Derived.Test.YthkpohlgekfnjaaOwns
namespace Go.Proofs.Ythkpohlgekfnjaa
open Go.ChangeShapes Go.WideShapes Go.ChangeAt Go.RowKit
attribute [local go_sem ↓] loadSec_seal storeSec_seal eqlSec_seal zeroSec
attribute [local go_sem] loadSec_run storeSec_run rowAt_at rowAt_old rowAt_drew rowAt_drewN roomSec_new roomAt_old roomAt_drew roomAt_drewN putSec_new putRow_past rowSec_put size_put putRow_drew putRow_drewN alloc_drewN setCell_drewN sec_size

structure St where
  Kind : Int
  N : Int
  Fill : Int
  Mark : Int
  Long : Int
def St.val (s : St) : Value := .agg #[.int .i64 s.Kind, .int .i64 s.N, .int .u8 s.Fill, .int .u8 s.Mark, .int .i64 s.Long]
structure St.Ok (s : St) : Prop where
  f : 0 ≤ s.Fill ∧ s.Fill ≤ 255
  m : 0 ≤ s.Mark ∧ s.Mark ≤ 255
def fillF (fill mark : Int) : Nat → Int := fun i => if i = 0 then mark else fill
def fillN (long : Int) : Nat := if 0 ≤ long ∧ long < 2000 then long.toNat else 1024
theorem fillN_lt (long : Int) : fillN long < 2000 := by unfold fillN; split <;> omega
theorem fillF_byte {s : St} (h : s.Ok) (i : Nat) : 0 ≤ fillF s.Fill s.Mark i ∧ fillF s.Fill s.Mark i ≤ 255 := by
  unfold fillF; split
  · exact h.m
  · exact h.f
def part (fill : Int) (k : Nat) : Nat → Int := fun i => if i < k then fill else 0
structure FInv (w : World) (fill mark : Int) (n k : Nat) (X : World) : Prop where
  row : BRow X (w.heap.size + 1) n (part fill k)
  below : Below w.heap.size w X
  fc : X.cell? ⟨w.heap.size, 2, none⟩ = some (.int .u8 fill)
  mc : X.cell? ⟨w.heap.size, 3, none⟩ = some (.int .u8 mark)
theorem FInv.start {w w2 : World} {K N fill mark long : Int} {n : Nat} {o : Obj} (ho : o = .cells #[.int .i64 K, .int .i64 N, .int .u8 fill, .int .u8 mark, .int .i64 long] 33)
    (h : w2.ownsRow w.heap.size 5 1 (.slice (some ⟨(w.alloc o).heap.size, 0, none⟩) n n) n (madeCells (Value.int .u8 0).cells (n * 1)).toList) (hg : (w.alloc o).grownBy w2 none) : FInv w fill mark n 0 w2 := by
  have e : (w.alloc o).heap.size = w.heap.size + 1 := by simp
  rw [e] at h
  have hb : w2.heap[w.heap.size]? = (w.alloc o).heap[w.heap.size]? := hg.block _ (by omega) (by simp)
  have hb2 : (w.alloc o).heap[w.heap.size]? = some o := heap_alloc_last w o
  rw [hb2, ho] at hb
  refine ⟨(BRow.made h).ext fun i hi => ?_, ((Below.refl _ w).alloc (Nat.le_refl _) _).grown hg (by omega) (fun k hk => by cases hk), ?_, ?_⟩
  · unfold part; rw [if_neg (by omega)]
  · rw [cell_of_row w2 _ 2 _ _ (0, 0) hb]; rfl
  · rw [cell_of_row w2 _ 3 _ _ (0, 0) hb]; rfl
theorem FInv.step {w X : World} {fill mark : Int} {n k : Nat} (h : FInv w fill mark n k X) (hk : k < n) : FInv w fill mark n (k + 1) (X.setCell ⟨w.heap.size + 1, k, none⟩ (.int .u8 fill)) := by
  have hs : ∀ j, (X.setCell ⟨w.heap.size + 1, k, none⟩ (.int .u8 fill)).cell? ⟨w.heap.size, j, none⟩ = X.cell? ⟨w.heap.size, j, none⟩ := fun j => World.cell?_of_block (Below.heap_setCell _ _ _ _ (by simp))
  refine ⟨(h.row.set hk fill).ext fun i hi => ?_, h.below.setCell (by simp) _, (hs 2).trans h.fc, (hs 3).trans h.mc⟩
  unfold upd part
  by_cases e : i = k
  · rw [if_pos e, if_pos (by omega)]
  · rw [if_neg e]
    by_cases e2 : i < k
    · rw [if_pos e2, if_pos (by omega)]
    · rw [if_neg e2, if_neg (by omega)]
theorem FInv.fin {w X : World} {fill mark : Int} {n : Nat} (h : FInv w fill mark n n X) (h0 : 0 < n) : BRow (X.setCell ⟨w.heap.size + 1, 0, none⟩ (.int .u8 mark)) (w.heap.size + 1) n (fillF fill mark) ∧ Below w.heap.size w (X.setCell ⟨w.heap.size + 1, 0, none⟩ (.int .u8 mark)) :=
  ⟨(h.row.set h0 mark).ext fun i hi => by
    unfold upd fillF part
    by_cases e : i = 0
    · rw [if_pos e, if_pos e]
    · rw [if_neg e, if_neg e, if_pos hi], h.below.setCell (by simp) _⟩
set_option maxHeartbeats 1000000 in
theorem filled_n (K N fill mark long : Int) (n : Nat) (w : World) (hn : n < 2000) (hl : (0 ≤ long ∧ long < 2000 ∧ long = n) ∨ (¬ (0 ≤ long ∧ long < 2000) ∧ n = 1024)) : Calls Try.prog 22 #[.agg #[.int .i64 K, .int .i64 N, .int .u8 fill, .int .u8 mark, .int .i64 long]] w fun e w' => ∃ g, e = .returned (.slice (some ⟨g, 0, none⟩) n n) ∧ BRow w' g n (fillF fill mark) ∧ w.heap.size ≤ g ∧ Below w.heap.size w w' := by
  obtain ⟨i0, hi, hz0, hz1, hz2⟩ := info_parts info5
  rcases hl with ⟨l0, l1, rfl⟩ | ⟨hl, rfl⟩
  · go_enter Try.func22, Try.ntmps22
    go_wp2_with (at_make; refine wpList_make_full _ rfl _ _ 43 rfl w.heap.size 5 i0 (.int .u8 0) 1 Try.underlying43 hi hz0 hz1 .i64 .i64 _ _ n rfl rfl rfl rfl (by rw [hz2]; omega) (by unfold maxLen; omega) (by simp) ?_; intro w2 hown2 hgrow2; have HI : Hid (FInv w fill mark n 0 w2) := FInv.start rfl hown2 hgrow2; clear hown2 hgrow2)
    go_loopw [5] (fun i X => ∃ k : Nat, k ≤ n ∧ i = .int .i64 k ∧ FInv w fill mark n k X) (fun i _ => n - (intOf i).toNat)
    case atStart => exact ⟨0, by omega, rfl, HI.out⟩
    case round =>
      obtain ⟨k, hk, rfl, hF⟩ := hrel
      have HF : Hid _ := hF
      obtain ⟨hR, _, hfc, hmc⟩ := hF
      by_cases hlt : k < n
      · obtain ⟨c0, c1⟩ := hR.at hlt
        have j0 : (0 : Int) ≤ (k : Int) := by omega
        have j1 : (k : Int) < (n : Int) := by omega
        clear hR HI
        go_wp2
        go_roundw
        case rel => exact ⟨k + 1, by omega, by go_num, HF.out.step hlt⟩
        case measure => simp [intOf]; omega
      · obtain rfl : k = n := by omega
        by_cases h0 : 0 < k
        · obtain ⟨c0, c1⟩ := hR.at h0
          have j0 : (0 : Int) < (k : Int) := by omega
          clear hR HI
          go_wp2
          go_ret
          exact ⟨w.heap.size + 1, by simp, (HF.out.fin h0).1, by simp, (HF.out.fin h0).2⟩
        · obtain rfl : k = 0 := by omega
          clear hR HI
          go_wp2
          go_ret
          exact ⟨w.heap.size + 1, by simp, HF.out.row.ext (fun i hi => by omega), by simp, HF.out.below⟩
  · have hl' : 0 ≤ long → 2000 ≤ long := fun h => by omega
    by_cases hq : 0 ≤ long
    all_goals
      go_enter Try.func22, Try.ntmps22
      go_wp2_with (at_make; refine wpList_make_full _ rfl _ _ 43 rfl w.heap.size 5 i0 (.int .u8 0) 1 Try.underlying43 hi hz0 hz1 .i64 .i64 _ _ 1024 rfl rfl rfl rfl (by rw [hz2]; omega) (by unfold maxLen; omega) (by simp) ?_; intro w2 hown2 hgrow2; have HI : Hid (FInv w fill mark 1024 0 w2) := FInv.start rfl hown2 hgrow2; clear hown2 hgrow2)
      go_loopw [5] (fun i X => ∃ k : Nat, k ≤ 1024 ∧ i = .int .i64 k ∧ FInv w fill mark 1024 k X) (fun i _ => 1024 - (intOf i).toNat)
      case atStart => exact ⟨0, by omega, rfl, HI.out⟩
      case round =>
        obtain ⟨k, hk, rfl, hF⟩ := hrel
        have HF : Hid _ := hF
        obtain ⟨hR, _, hfc, hmc⟩ := hF
        by_cases hlt : k < 1024
        · obtain ⟨c0, c1⟩ := hR.at hlt
          have j0 : (0 : Int) ≤ (k : Int) := by omega
          have j1 : (k : Int) < 1024 := by omega
          clear hR HI
          go_wp2
          go_roundw
          case rel => exact ⟨k + 1, by omega, by go_num, HF.out.step hlt⟩
          case measure => simp [intOf]; omega
        · obtain rfl : k = 1024 := by omega
          obtain ⟨c0, c1⟩ := hR.at (k := 0) (by omega)
          clear hR HI
          go_wp2
          go_ret
          exact ⟨w.heap.size + 1, by simp, (HF.out.fin (by omega)).1, by simp, (HF.out.fin (by omega)).2⟩
theorem filled_any (s : St) (w : World) : Calls Try.prog 22 #[s.val] w fun e w' => ∃ g, e = .returned (.slice (some ⟨g, 0, none⟩) (fillN s.Long) (fillN s.Long)) ∧ BRow w' g (fillN s.Long) (fillF s.Fill s.Mark) ∧ w.heap.size ≤ g ∧ Below w.heap.size w w' := by
  refine filled_n s.Kind s.N s.Fill s.Mark s.Long (fillN s.Long) w (fillN_lt _) ?_
  unfold fillN
  by_cases h : 0 ≤ s.Long ∧ s.Long < 2000
  · left; rw [if_pos h]; omega
  · right; rw [if_neg h]; exact ⟨h, rfl⟩
end Go.Proofs.Ythkpohlgekfnjaa
