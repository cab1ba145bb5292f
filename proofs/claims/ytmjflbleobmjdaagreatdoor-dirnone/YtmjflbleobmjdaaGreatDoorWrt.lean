/-
  Layer 17: the program's markedBytes, rootBytes, Format.
-/
import Derived.Test.YtmjflbleobmjdaaGreatDoorHdr
namespace Go.Proofs.YtmjflbleobmjdaaGreatDoor
set_option linter.unusedVariables false
set_option linter.unusedSimpArgs false
open Go.ChangeShapes Go.WideShapes Go.ChangeAt Go.RowKit
attribute [local go_sem ↓] loadSec_seal storeSec_seal eqlSec_seal zeroSec
attribute [local go_sem] loadSec_run storeSec_run rowAt_at rowAt_old rowAt_drew rowAt_drewN roomSec_new roomAt_old roomAt_drew roomAt_drewN putSec_new putRow_past rowSec_put size_put putRow_drew putRow_drewN alloc_drewN setCell_drewN sec_size

set_option linter.unusedVariables false

/-- A sector of the call's own while it is written. -/
structure Wsec (w : World) (g : Nat) (l : List Int) (X : World) : Prop where
  row : BRow X g 1024 (secF l)
  new : w.heap.size ≤ g
  below : Below w.heap.size w X
theorem Wsec.next {w X Y : World} {g : Nat} {l : List Int} (h : Wsec w g l X) (hb : Below X.heap.size X Y) : Wsec w g l Y :=
  ⟨h.row.same (hb.block g h.row.lt), h.new, h.below.trans (hb.mono h.below.size)⟩
theorem Wsec.tou {w X Y : World} {g : Nat} {l l' : List Int} (h : Wsec w g l X) (hr : BRow Y g 1024 (secF l')) (ht : Tou (fun x => x = g) X Y) : Wsec w g l' Y :=
  ⟨hr, h.new, h.below.trans (ht.below h.below.size (fun x hx => by rw [hx]; exact h.new))⟩
/-- Put, behind all that was written. -/
theorem put_sec {w X : World} {g : Nat} {l : List Int} (h : Wsec w g l X) (cap p : Nat) (z v : Int) (hz : z = (p : Int)) (hp : l.length ≤ p) (hp2 : p + 4 ≤ 1024) :
    Calls Tryz.prog 64 #[.slice (some ⟨g, 0, none⟩) 1024 cap, .int .i64 z, .int .u32 v] X fun e w' => e = .returned (.bool true) ∧ Wsec w g (l ++ List.replicate (p - l.length) 0 ++ wdL v) w' := by
  subst hz
  refine (put_any g 1024 cap (secF l) p v X (by unfold maxLen; omega) h.row).mono fun e w' ⟨he, hr, ht, _⟩ => ?_
  rw [fits_yes hp2] at he
  rw [secF_put l p hp hp2 v] at hr
  exact ⟨he, h.tou hr ht⟩
theorem secF_nil : secF [] = fun _ => 0 := by funext i; rfl
set_option maxHeartbeats 2000000 in
theorem markedBytes_any (mark : Int) (n : Nat) (w : World) (hn : n ≤ 4294967295) :
    Calls Tryz.prog 63 #[.int .u32 mark, .int .i64 n] w fun e w' => ∃ g, e = .returned (.slice (some ⟨g, 0, none⟩) 1024 1024) ∧ Wsec w g (markL mark n) w' := by
  obtain ⟨i0, hi, hz0, hz1, hz2⟩ := info_parts info5
  have hw : (n : Int) % 4294967296 = n := by omega
  go_enter Tryz.func63, Tryz.ntmps63
  go_wp2_with (first
    | (at_make; refine wpList_make_full _ rfl _ _ 71 rfl w.heap.size 5 i0 (.int .u8 0) 1 Tryz.underlying71 hi hz0 hz1 .i64 .i64 _ _ 1024 rfl rfl rfl rfl (by rw [hz2]; decide) (by decide) (Nat.le_refl _) ?_; intro w2 hown2 hgrow2; have HW := hidD (⟨(BRow.made hown2).ext (fun i _ => by rw [secF_nil]), Nat.le_refl _, (Below.refl _ w).grown hgrow2 (Nat.le_refl _) (fun k hk => by cases hk)⟩ : Wsec w w.heap.size [] w2); clear hown2 hgrow2)
    | (go_at_call 64; have hx := HW2; clear hx; refine (put_sec HW2.out 1024 4 _ _ rfl (by simp [wdL_len]) (by omega)).mono ?_; rintro e w4 ⟨rfl, h4⟩; have HW4 := hidD h4; clear h4)
    | (go_at_call 64; refine (put_sec HW.out 1024 0 _ _ rfl (by simp) (by omega)).mono ?_; rintro e w3 ⟨rfl, h3⟩; have HW2 := hidD h3; clear h3))
  go_ret
  refine ⟨w.heap.size, rfl, ?_⟩
  have h := HW4.out
  have e : ([] ++ List.replicate (0 - ([] : List Int).length) 0 ++ wdL mark ++ List.replicate (4 - ([] ++ List.replicate (0 - ([] : List Int).length) 0 ++ wdL mark).length) 0 ++ wdL (n : Int)) = markL mark n := by simp [markL, wdL_len]
  rw [← e]
  exact h
theorem markL_len (mark : Int) (n : Nat) : (markL mark n).length = 8 := rfl
/-- A row of numbers while it is gone through: cells in a world that has grown. -/
theorem rowI_at {A : Nat → Prop} {X : World} {v : Value} {s : List Int} (h : RowI A X v s) {k : Nat} (hk : k < s.length) : ∃ b off c, v = .slice (some ⟨b, off, none⟩) s.length c ∧ X.cell? ⟨b, off + k, none⟩ = some (.int .i64 (s.getD k 0)) := cell_of_rowI h (Below.refl _ _) hk
set_option maxHeartbeats 4000000 in
theorem rootBytes_any {A : Nat → Prop} (v : Value) (ls : List Int) (w : World) (h : RowI A w v ls) (hn : ls.length ≤ 200) (hb : ∀ x ∈ ls, 0 ≤ x ∧ x ≤ 4294967295) :
    Calls Tryz.prog 32 #[v] w fun e w' => ∃ g, e = .returned (.slice (some ⟨g, 0, none⟩) 1024 1024) ∧ Wsec w g (rootL ls) w' := by
  have HV := hidD h
  have HBD := hidD hb
  obtain ⟨hl, a, c, rfl, h1, h2, h3⟩ := h
  clear h3 hb
  have HM := hidD (fun X => markedBytes_any rootM ls.length X (by omega))
  go_enter Tryz.func32, Tryz.ntmps32
  go_wp2_with (go_at_call 63; refine (HM.out _).mono ?_; rintro e w1 ⟨g, rfl, hW⟩; have HW := hidD hW; clear hW)
  go_loopw [11] (fun i X => ∃ k : Nat, k ≤ ls.length ∧ i = .int .i64 k ∧ Wsec w g (markL rootM ls.length ++ wordsL (ls.take k)) X) (fun i _ => ls.length - (intOf i).toNat)
  case atStart => exact ⟨0, by omega, rfl, by have := HW.out; simpa [wordsL] using this⟩
  case round =>
    obtain ⟨k, hk, rfl, hW⟩ := hrel
    clear HW
    have HW := hidD hW
    by_cases hlt : k < ls.length
    · obtain ⟨b, off, c', hv, hcell⟩ := rowI_at (HV.out.below hW.below) hlt
      obtain ⟨rfl, rfl⟩ : a = some ⟨b, off, none⟩ ∧ c = c' := by simp at hv; exact hv
      have hx := HBD.out (ls.getD k 0) (by rw [List.getD_eq_getElem?_getD, List.getElem?_eq_getElem hlt]; exact List.getElem_mem _)
      have ht : ls.take (k + 1) = ls.take k ++ [ls.getD k 0] := by
        rw [List.take_succ_eq_append_getElem hlt, List.getD_eq_getElem?_getD, List.getElem?_eq_getElem hlt]; rfl
      have HT := hidD ht
      generalize ls.getD k 0 = x at hcell hx HT
      have i0 : (0 : Int) ≤ (k : Int) := by omega
      have i1 : (k : Int) < (ls.length : Int) := by omega
      have hxm : x % 4294967296 = x := by omega
      have hlen : (markL rootM ls.length ++ wordsL (ls.take k)).length = 8 + 4 * k := by
        rw [List.length_append, markL_len, wordsL_len, List.length_take]; omega
      have HP := hidD (fun (X : World) (z : Int) (hX : Wsec w g (markL rootM ls.length ++ wordsL (ls.take k)) X) (hz : z = ((8 + 4 * k : Nat) : Int)) => put_sec hX 1024 (8 + 4 * k) z x hz (by omega) (by omega))
      rw [hlen] at HP
      clear hW hv ht hlen
      go_wp2_with (go_at_call 64; refine (HP.out _ _ HW.out (by omega)).mono ?_; rintro e w2 ⟨rfl, hW2⟩; have HW2 := hidD hW2; clear hW2)
      go_roundw
      case rel => exact ⟨k + 1, by omega, by go_num, by
        have h := HW2.out
        rw [Nat.sub_self] at h
        rw [HT.out, wordsL_app, ← List.append_assoc]
        simpa [wordsL] using h⟩
      case measure => simp [intOf]; omega
    · obtain rfl : k = ls.length := by omega
      clear hW
      go_wp2
      go_ret
      exact ⟨g, rfl, by have h := HW.out; rw [List.take_length] at h; exact h⟩
end Go.Proofs.YtmjflbleobmjdaaGreatDoor
