/-
  Layer 17: the program's entryIn.
-/
import Derived.Test.YtmjflbleobmjdaaGreatDoorCmp
import Derived.Test.YtmjflbleobmjdaaGreatDoorFmt
namespace Go.Proofs.YtmjflbleobmjdaaGreatDoor
set_option linter.unusedVariables false
set_option linter.unusedSimpArgs false
open Go.ChangeShapes Go.WideShapes Go.ChangeAt Go.RowKit
attribute [local go_sem ↓] loadSec_seal storeSec_seal eqlSec_seal zeroSec
attribute [local go_sem] loadSec_run storeSec_run rowAt_at rowAt_old rowAt_drew rowAt_drewN roomSec_new roomAt_old roomAt_drew roomAt_drewN putSec_new putRow_past rowSec_put size_put putRow_drew putRow_drewN alloc_drewN setCell_drewN sec_size

set_option linter.unusedVariables false

theorem wordIn_len (a : Option Addr) (len cap : Nat) (f : Nat → Int) (p : Nat) (w : World) (hr : RdB w a len f) (hp : p + 4 ≤ len) :
    Calls Tryz.prog 69 #[.slice a len cap, .int .i64 (p : Int)] w fun e w' => e = .returned (.int .u32 (wordAt f (p : Int))) ∧ Below w.heap.size w w' := by
  have H := hidD (get_any a len cap f (p : Int) w hr)
  have hf : fits len (p : Int) = true := by unfold fits; exact decide_eq_true (by omega)
  have e : gotW len f (p : Int) = wordAt f (p : Int) := if_pos hf
  rw [e, hf] at H
  generalize wordAt f (p : Int) = x at H
  clear hf e hr hp
  go_enter Tryz.func69, Tryz.ntmps69
  go_wp2_with (go_at_call 80; refine H.out.mono ?_; rintro e w1 ⟨rfl, hb⟩)
  go_ret
  exact ⟨rfl, hb⟩
theorem rd_sub {w : World} {g off len m p : Nat} {f : Nat → Int} (h : RdB w (some ⟨g, off, none⟩) len f) (hm : p + m ≤ len) : RdB w (some ⟨g, off + p, none⟩) m (fun i => f (p + i)) := by
  refine ⟨by have := h.1; omega, ?_⟩
  rcases h.2 with h0 | ⟨b, o, he, hc⟩
  · left; omega
  · injection he with he
    injection he with e1 e2 _
    subst e1 e2
    exact .inr ⟨g, off + p, rfl, fun i hi => by rw [Nat.add_assoc]; exact hc (p + i) (by omega)⟩
theorem str24 (f : Nat → Int) (k : Nat) : (strF (fun j => f (8 + 32 * k + j)) 24).data.toList = nameL24 f k := by
  unfold strF nameL24
  rw [strOfNums_data, List.map_map]; rfl
theorem word_24 (f : Nat → Int) (k : Nat) : wordAt (fun i => f (8 + 32 * k + i)) ((24 : Nat) : Int) = wdF f (8 + 8 * k) := by
  unfold wdF wordAt
  congr 1
  funext i
  simp only [Int.toNat_natCast]
  congr 1
  omega
theorem word_28 (f : Nat → Int) (k : Nat) : wordAt (fun i => f (8 + 32 * k + i)) ((28 : Nat) : Int) = wdF f (9 + 8 * k) := by
  unfold wdF wordAt
  congr 1
  funext i
  simp only [Int.toNat_natCast]
  congr 1
  omega
def zeroE : Value := .agg #[.string ⟨#[]⟩, .int .i64 0, .int .i64 0]
def En.val (e : En) : Value := .agg #[.string e.nm, .int .i64 e.hd, .int .i64 e.ln]
def EiP (r : Option En) (e : Ending) : Prop := match r with
  | some x => e = .returned (.tuple #[x.val, .bool true])
  | none => e = .returned (.tuple #[zeroE, .bool false])
theorem trim_any (r : List UInt8) (t : List UInt8) (ht : t = Lib.trimB r 0) (hr : (⟨r.toArray⟩ : ByteArray).size ≤ 24) (X : World) : Calls Tryz.prog 94 #[.string ⟨r.toArray⟩, .string ⟨#[0]⟩] X fun e w' => e = .returned (.string ⟨t.toArray⟩) ∧ ∃ q, w' = X.drewN q := by
  have h := Tryz.strings_Trim_one ⟨r.toArray⟩ 0 (by decide) X (by omega)
  rw [show (⟨r.toArray⟩ : ByteArray).data.toList = r by simp, ← ht] at h
  refine h.mono fun e w' ⟨he, hw⟩ => ⟨he, ?_⟩
  rcases hw with rfl | rfl
  · exact ⟨0, rfl⟩
  · exact ⟨1, rfl⟩
/-- What a box that was laid holds in a world that has grown. -/
theorem box_one {w w1 w2 : World} {q : Nat} {a0 a1 a2 : Value} {t : TypeId} (h1 : Below ((w.alloc (.cells #[a0, a1, a2] t)).drewN q).heap.size ((w.alloc (.cells #[a0, a1, a2] t)).drewN q) w1) (h2 : Below w1.heap.size w1 w2) :
    w2.cell? ⟨w.heap.size, 0, none⟩ = some a0 ∧ w2.cell? ⟨w.heap.size, 1, none⟩ = some a1 ∧ w2.cell? ⟨w.heap.size, 2, none⟩ = some a2 ∧ (∀ o, w2.frozen? ⟨w.heap.size, o, none⟩ = false) := by
  obtain ⟨c1, f1⟩ := bcell h1
  obtain ⟨c2, f2⟩ := bcell h2
  have s1 := h1.size
  have z : ((w.alloc (.cells #[a0, a1, a2] t)).drewN q).heap.size = w.heap.size + 1 := by simp
  rw [z] at s1
  refine ⟨?_, ?_, ?_, fun o => ?_⟩
  all_goals first | rw [c2 _ _ (by omega), c1 _ _ (by omega)] | rw [f2 _ _ (by omega), f1 _ _ (by omega)]
  all_goals simp [go_sem]
set_option maxRecDepth 20000 in
set_option maxHeartbeats 4000000 in
theorem entryIn_any (g : Nat) (f : Nat → Int) (k : Nat) (m : Int) (w : World) (hr : RdB w (some ⟨g, 0, none⟩) 1024 f) (hk : k < 31) (hm : w.cell? ⟨0, 0, none⟩ = some (.int .i64 m)) :
    Calls Tryz.prog 78 #[.slice (some ⟨g, 0, none⟩) 1024 1024, .int .i64 (k : Int)] w fun e w' => EiP (entP f k) e ∧ Below w.heap.size w w' := by
  have HR32 := hidD (fun X (hX : Below w.heap.size w X) => rd_sub (m := 32) (p := 8 + 32 * k) (hr.below hX) (by omega))
  have HR24 := hidD (fun X (hX : Below w.heap.size w X) => rd_sub (m := 24) (p := 8 + 32 * k) (hr.below hX) (by omega))
  obtain ⟨s, hs⟩ : ∃ s, s = strF (fun j => f (8 + 32 * k + j)) 24 := ⟨_, rfl⟩
  have HCV := hidD (fun X c (hX : Below w.heap.size w X) => conv_str c (HR24.out X hX))
  have hl := str24 f k
  rw [← hs] at HCV hl
  have hsz : s.size = 24 := by rw [hs, strF, strOfNums_size]; simp
  have HM := hidD (fun X (hX : Below w.heap.size w X) => (hX.cell (p := ⟨0, 0, none⟩) (World.block_lt_of_cell? w _ hm)).trans hm)
  have HC := hidD (fun X (hX : Below w.heap.size w X) => Tryz.strings_Cut s ⟨#[0]⟩ m X (by omega) (HM.out X hX))
  rw [show (⟨#[0]⟩ : ByteArray).data.toList = [0] from rfl] at HC
  have k0 : (0 : Int) ≤ (k : Int) := by omega
  have k1 : (k : Int) < 31 := by omega
  unfold entP
  rw [← hl]
  have hN := fun (n : ByteArray) X (h : n.size ≤ 24) => isName_any n X (by omega)
  have HN := hidD hN
  have hlen : s.data.toList.length = 24 := by rw [Array.length_toList]; exact hsz
  have hbl : (beforeN s.data.toList).length ≤ 24 := by
    have := split_at s.data.toList
    have h2 := congrArg List.length this
    rw [List.length_append, hlen] at h2; omega
  have hcv := fun c => HCV.out (w.alloc (.cells #[.string ⟨#[]⟩, .int .i64 0, .int .i64 0] 25)) c ((Below.refl _ w).alloc (Nat.le_refl _) _)
  rw [Nat.zero_add] at hcv
  clear hr hm hs hN
  rcases rest_head s.data.toList with hr | ⟨r, hr⟩
  · have hb24 : (beforeN s.data.toList).length = 24 := by
      have := split_at s.data.toList
      rw [hr, List.append_nil] at this
      have h2 := congrArg List.length this
      omega
    have hnb : nameB ⟨(beforeN s.data.toList).toArray⟩ = false := by
      have hsz2 : (⟨(beforeN s.data.toList).toArray⟩ : ByteArray).size = 24 := by show (beforeN s.data.toList).toArray.size = 24; simpa using hb24
      unfold nameB
      rw [hsz2]; rfl
    rw [cut_no _ hr] at HC
    rw [hnb, Bool.and_false]
    have HNB := hidD hnb
    have HBL : Hid ((⟨(beforeN s.data.toList).toArray⟩ : ByteArray).size ≤ 24) := by show (beforeN s.data.toList).toArray.size ≤ 24; simpa using hbl
    generalize (⟨(beforeN s.data.toList).toArray⟩ : ByteArray) = nm at HC HNB HBL
    clear hr hb24 hnb hbl hlen hl
    go_enter Tryz.func78, Tryz.ntmps78
    go_wp2_with (first
      | (go_at_call 93; refine (HC.out _ (by go_grown)).mono ?_; rintro e w1 ⟨rfl, q, rfl⟩)
      | (go_at_call 18; refine (HN.out _ _ HBL.out).mono ?_; rintro e w2 ⟨rfl, hw⟩; obtain rfl := hw.symm; rw [HNB.out]))
    exact bodyPost_ret (v := .tuple #[zeroE, .bool false]) (by simp [results, Tryz.results78, go_sem, zeroE]) rfl ⟨rfl, bdrewN (by go_grown) _⟩
  · rw [cut_yes _ r hr] at HC
    have hz : ((0 : UInt8) :: r).all (· == 0) = r.all (· == 0) := by simp
    rw [hr, hz]
    have HBL : Hid ((⟨(beforeN s.data.toList).toArray⟩ : ByteArray).size ≤ 24) := by show (beforeN s.data.toList).toArray.size ≤ 24; simpa using hbl
    have hrl : r.length ≤ 24 := by
      have h2 := congrArg List.length hr
      rw [List.length_drop, hlen] at h2
      simp at h2; omega
    have HRL : Hid ((⟨r.toArray⟩ : ByteArray).size ≤ 24) := by show r.toArray.size ≤ 24; simpa using hrl
    obtain ⟨t, ht⟩ : ∃ t, t = Lib.trimB r 0 := ⟨_, rfl⟩
    have HT := hidD (fun X => trim_any r t ht HRL.out X)
    have htn := trim_nil r
    rw [← ht] at htn
    generalize (⟨(beforeN s.data.toList).toArray⟩ : ByteArray) = nm at HC HBL
    cases hnb : nameB nm
    · have HNB := hidD hnb
      rw [Bool.and_false]
      clear hr hz hrl htn ht hnb hbl hlen hl
      go_enter Tryz.func78, Tryz.ntmps78
      go_wp2_with (first
        | (go_at_call 93; refine (HC.out _ (by go_grown)).mono ?_; rintro e w1 ⟨rfl, q, rfl⟩)
        | (go_at_call 18; refine (HN.out _ _ HBL.out).mono ?_; rintro e w2 ⟨rfl, hw⟩; obtain rfl := hw.symm; rw [HNB.out]))
      exact bodyPost_ret (v := .tuple #[zeroE, .bool false]) (by simp [results, Tryz.results78, go_sem, zeroE]) rfl ⟨rfl, bdrewN (by go_grown) _⟩
    · have HNB := hidD hnb
      rw [Bool.and_true]
      cases hall : r.all (· == 0)
      · have htn2 : ¬ t = [] := fun e => by rw [htn.1 e] at hall; cases hall
        have hte : (t == ([] : List UInt8)) = false := by simpa using htn2
        have hte2 : t.isEmpty = false := by simpa using htn2
        have hte3 : ((⟨t.toArray⟩ : ByteArray).toList.isEmpty) = false := by simpa [ByteArray.toList_eq] using htn2
        clear hr hz hrl htn ht hnb hbl hlen hl htn2 hall
        go_enter Tryz.func78, Tryz.ntmps78
        go_wp2_with (first
          | (go_at_call 93; refine (HC.out _ (by go_grown)).mono ?_; rintro e w1 ⟨rfl, q, rfl⟩)
          | (go_at_call 18; refine (HN.out _ _ HBL.out).mono ?_; rintro e w2 ⟨rfl, hw⟩; obtain rfl := hw.symm; rw [HNB.out])
          | (go_at_call 94; refine (HT.out _).mono ?_; rintro e w3 ⟨rfl, q3, rfl⟩))
        exact bodyPost_ret (v := .tuple #[zeroE, .bool false]) (by simp [results, Tryz.results78, go_sem, zeroE]) rfl ⟨rfl, bdrewN (by go_grown) _⟩
      · have htn2 : t = [] := htn.2 hall
        subst htn2
        have HW24 := hidD (fun X (hX : Below w.heap.size w X) => wordIn_len _ 32 (1024 - (8 + 32 * k)) _ 24 X (HR32.out X hX) (by omega))
        have HW28 := hidD (fun X (hX : Below w.heap.size w X) => wordIn_len _ 32 (1024 - (8 + 32 * k)) _ 28 X (HR32.out X hX) (by omega))
        rw [word_24, Nat.zero_add] at HW24
        rw [word_28, Nat.zero_add] at HW28
        have hby : ∀ i, i < 32 → 0 ≤ f (8 + 32 * k + i) ∧ f (8 + 32 * k + i) ≤ 255 := fun i hi => by
          rcases (HR32.out w (Below.refl _ _)).2 with h0 | ⟨_, _, _, hc⟩
          · omega
          · exact (hc i hi).2
        have x0 : 0 ≤ wdF f (8 + 8 * k) ∧ wdF f (8 + 8 * k) ≤ 4294967295 := by
          rw [← word_24]
          have := tgv_bd8 (fun j => f (8 + 32 * k + (((24 : Nat) : Int).toNat + j))) 4 (fun j hj => hby _ (by simp; omega)) 4 (Nat.le_refl _)
          unfold wordAt
          have h2 := this.2
          simp at h2 this ⊢; omega
        have y0 : 0 ≤ wdF f (9 + 8 * k) ∧ wdF f (9 + 8 * k) ≤ 4294967295 := by
          rw [← word_28]
          have := tgv_bd8 (fun j => f (8 + 32 * k + (((28 : Nat) : Int).toNat + j))) 4 (fun j hj => hby _ (by simp; omega)) 4 (Nat.le_refl _)
          unfold wordAt
          have h2 := this.2
          simp at h2 this ⊢; omega
        obtain ⟨x0, x1⟩ := x0
        obtain ⟨y0, y1⟩ := y0
        generalize wdF f (8 + 8 * k) = x at x0 x1 HW24
        generalize wdF f (9 + 8 * k) = y at y0 y1 HW28
        clear hr hz hrl htn ht hnb hbl hlen hl hall hby
        go_enter Tryz.func78, Tryz.ntmps78
        go_wp2_with (first
          | (go_at_call 93; refine (HC.out _ (by go_grown)).mono ?_; rintro e w1 ⟨rfl, q, rfl⟩)
          | (go_at_call 18; refine (HN.out _ _ HBL.out).mono ?_; rintro e w2 ⟨rfl, hw⟩; obtain rfl := hw.symm; rw [HNB.out])
          | (go_at_call 94; refine (HT.out _).mono ?_; rintro e w3 ⟨rfl, q3, rfl⟩)
          | (go_at_call 69; have hz := HB4; clear hz; refine (HW28.out _ HB4.out).mono ?_; rintro e w5 ⟨rfl, hb5⟩; have HB5 := hidD hb5; obtain ⟨q0, q1, q2, q3⟩ := box_one HB40.out hb5; have hz5 : w.heap.size < w5.heap.size := Nat.lt_of_lt_of_le hz4 hb5.size; clear hb5)
          | (go_at_call 69; refine (HW24.out _ (bdrewN ((Below.refl _ w).alloc (Nat.le_refl _) _) _)).mono ?_; rintro e w4 ⟨rfl, hb4⟩; go_loud (have HB4 := hidD ((bdrewN ((Below.refl _ w).alloc (Nat.le_refl _) _) _).trans (hb4.mono (by simp)) : Below w.heap.size w w4); have HB40 := hidD hb4; have hz4 : w.heap.size < w4.heap.size := Nat.lt_of_lt_of_le (by simp) hb4.size; clear hb4)))
        have b5 := HB4.out.trans (HB5.out.mono HB4.out.size)
        exact bodyPost_ret (v := .tuple #[.agg #[.string nm, .int .i64 x, .int .i64 y], .bool true]) (by simp [results, Tryz.results78, go_sem, hz5, q0, q1, q2]) rfl ⟨rfl, ((b5.setCell (Nat.le_refl _) _).setCell (Nat.le_refl _) _).setCell (Nat.le_refl _) _⟩
end Go.Proofs.YtmjflbleobmjdaaGreatDoor
