/-
  Layer 8, the program's: plainBlanks, wordOf, remark, blanks, of every text.
-/
import Derived.Test.YtllhcjmabhempaaDoorChr
namespace Go.Proofs.YtllhcjmabhempaaDoor
set_option linter.unusedVariables false
set_option linter.unusedSimpArgs false
open Go.ChangeShapes Go.WideShapes Go.ChangeAt Go.RowKit

/-- What a rune is, and what its byte is, if no rune of 128 or more is such a one. -/
theorem next_class {l : Bs} {pos R K : Nat} (h : pos < l.length) (hc : (R = l[pos].toNat ∧ K = 1 ∧ R < 128) ∨ (128 ≤ R ∧ 128 ≤ l[pos].toNat ∧ ∀ j (hj : j < l.length), pos ≤ j → j < pos + K → 128 ≤ l[j].toNat))
    (f : Int → Bool) (hf : ∀ r : Int, 128 ≤ r → f r = false) : f l[pos].toNat = f R ∧ (f R = true → K = 1) := by
  rcases hc with ⟨rfl, rfl, _⟩ | ⟨h1, h2, _⟩
  · exact ⟨rfl, fun _ => rfl⟩
  · rw [hf R (by omega), hf l[pos].toNat (by omega)]; exact ⟨rfl, fun h => by cases h⟩
theorem drop_cons {l : Bs} {pos : Nat} (h : pos < l.length) : l.drop pos = l[pos] :: l.drop (pos + 1) := List.drop_eq_getElem_cons h
theorem take_snoc {l : Bs} {pos : Nat} (h : pos < l.length) (r : Bs) : l.take pos ++ l[pos] :: r = l.take (pos + 1) ++ r := by rw [List.take_succ_eq_append_getElem h, List.append_assoc]; rfl
set_option maxRecDepth 20000 in
theorem plainBlanks_any (l : Bs) (hl : l.length ≤ 1000000000) (w : World) : Calls Tryd.prog 17 #[.string (bs l)] w fun e w' => e = .returned (.int .i64 (((l.takeWhile blk).length : Nat) : Int)) ∧ Below w.heap.size w w' := by
  have hz := bs_size l
  go_enter Tryd.func17, Tryd.ntmps17
  go_wp2
  go_loopg [] l.length (fun gf wx => ∃ pos : Nat, pos + gf = l.length ∧ wx.heap[w.heap.size]? = some (.stringIter (bs l) pos) ∧ Below w.heap.size w wx ∧ (l.takeWhile blk).length = pos + ((l.drop pos).takeWhile blk).length)
  case atStart => exact ⟨0, by omega, World.iter_heap w (bs l) 0, (Below.refl _ w).alloc (Nat.le_refl _) _, by simp⟩
  case round =>
    obtain ⟨pos, hp, hit, hbw, hT⟩ := hrel
    by_cases hlt : pos < l.length
    · obtain ⟨g', rfl⟩ : ∃ g', gk = g' + 1 := ⟨gk - 1, by omega⟩
      obtain ⟨R, K, hnx, hK1, hK2, hR, hc⟩ := next_at l pos w.heap.size wr hit hlt
      have hit2 := Lib.iterAt_heap wr w.heap.size (bs l) pos (pos + K) hit
      have hbw2 := Lib.below_iterAt hbw (k := w.heap.size) (Nat.le_refl _) (bs l) (pos + K)
      obtain ⟨W, hWd⟩ : ∃ W, wr.iterAt w.heap.size (bs l) (pos + K) = W := ⟨_, rfl⟩
      rw [hWd] at hnx hit2 hbw2
      have BL := isBlank_any (R : Int) W
      obtain ⟨c1, c2⟩ := next_class hlt hc blkI (fun r => blkI_high)
      rw [drop_cons hlt] at hT
      cases hb : blkI (R : Int)
      · rw [hb] at BL c1
        have hT2 : (l.takeWhile blk).length = pos := by rw [hT, List.takeWhile_cons, show blk l[pos] = false from c1]; simp
        have HT : Hid ((l.takeWhile blk).length = pos) := hT2
        clear hT hT2 hc c1 c2 hit hbw hWd
        go_wp2_with (go_at_call 46; refine BL.mono ?_; rintro e W' ⟨rfl, hw⟩; rw [hw]; clear hw)
        go_ret
        exact ⟨ret_int (by rw [HT.out]), hbw2⟩
      · rw [hb] at BL c1
        obtain rfl := c2 hb
        have hT2 : (l.takeWhile blk).length = (pos + 1) + ((l.drop (pos + 1)).takeWhile blk).length := by rw [hT, List.takeWhile_cons, show blk l[pos] = true from c1]; simp; omega
        have HT : Hid _ := hT2
        clear hT hT2 hc c1 c2 hit hbw hWd
        go_wp2_with (go_at_call 46; refine BL.mono ?_; rintro e W' ⟨rfl, hw⟩; rw [hw]; clear hw)
        go_roundg g'
        case measure => omega
        case rel => exact ⟨pos + 1, by omega, hit2, hbw2, HT.out⟩
    · have hnx := next_end l pos w.heap.size wr hit hlt
      have hT2 : (l.takeWhile blk).length = l.length := by rw [hT, List.drop_of_length_le (by omega)]; simp; omega
      have HT : Hid _ := hT2
      clear hT hT2
      go_wp2
      go_ret
      exact ⟨ret_int (by rw [HT.out]), hbw⟩
set_option maxRecDepth 20000 in
theorem wordOf_any (l : Bs) (hl : l.length ≤ 1000000000) (w : World) : Calls Tryd.prog 22 #[.string (bs l)] w fun e w' => e = .returned (.string (bs (wordL l))) ∧ Below w.heap.size w w' := by
  have hz := bs_size l
  go_enter Tryd.func22, Tryd.ntmps22
  go_wp2
  go_loopg [] l.length (fun gf wx => ∃ pos : Nat, pos + gf = l.length ∧ wx.heap[w.heap.size]? = some (.stringIter (bs l) pos) ∧ Below w.heap.size w wx ∧ wordL l = l.take pos ++ wordL (l.drop pos))
  case atStart => exact ⟨0, by omega, World.iter_heap w (bs l) 0, (Below.refl _ w).alloc (Nat.le_refl _) _, by simp⟩
  case round =>
    obtain ⟨pos, hp, hit, hbw, hT⟩ := hrel
    by_cases hlt : pos < l.length
    · obtain ⟨g', rfl⟩ : ∃ g', gk = g' + 1 := ⟨gk - 1, by omega⟩
      obtain ⟨R, K, hnx, hK1, hK2, hR, hc⟩ := next_at l pos w.heap.size wr hit hlt
      have hit2 := Lib.iterAt_heap wr w.heap.size (bs l) pos (pos + K) hit
      have hbw2 := Lib.below_iterAt hbw (k := w.heap.size) (Nat.le_refl _) (bs l) (pos + K)
      obtain ⟨W, hWd⟩ : ∃ W, wr.iterAt w.heap.size (bs l) (pos + K) = W := ⟨_, rfl⟩
      rw [hWd] at hnx hit2 hbw2
      have LT := isLetter_any (R : Int) W
      have DG := isDigit_any (R : Int) W
      obtain ⟨c1, c2⟩ := next_class hlt hc (fun r => ltrI r || digI r) (fun r h => by simp [ltrI_high h, digI_high h])
      have hsh := slice_h l pos (by omega)
      rw [drop_cons hlt] at hT
      cases hb : ltrI (R : Int) <;> cases hd : digI (R : Int)
      · rw [hb] at LT c1
        rw [hd] at DG c1
        have hT2 : wordL l = l.take pos := by rw [hT, wordL, List.takeWhile_cons, show wch l[pos] = false from c1]; simp
        have HT : Hid (wordL l = l.take pos) := hT2
        clear hT hT2 hc c1 c2 hit hbw hWd
        go_wp2_with (first | (go_at_call 20; refine LT.mono ?_; rintro e W' ⟨rfl, hw⟩; rw [hw]; clear hw) | (go_at_call 23; refine DG.mono ?_; rintro e W' ⟨rfl, hw⟩; rw [hw]; clear hw))
        go_ret
        exact ⟨ret_str (by rw [HT.out]), hbw2⟩
      all_goals
        rw [hb] at LT c1
        rw [hd] at DG c1
        obtain rfl := c2 (by simp [hb, hd])
        have hT2 : wordL l = l.take (pos + 1) ++ wordL (l.drop (pos + 1)) := by rw [hT, wordL, List.takeWhile_cons, show wch l[pos] = true from c1, if_pos rfl]; exact take_snoc hlt _
        have HT : Hid (wordL l = l.take (pos + 1) ++ wordL (l.drop (pos + 1))) := hT2
        clear hT hT2 hc c1 c2 hit hbw hWd
        go_wp2_with (first | (go_at_call 20; refine LT.mono ?_; rintro e W' ⟨rfl, hw⟩; rw [hw]; clear hw) | (go_at_call 23; refine DG.mono ?_; rintro e W' ⟨rfl, hw⟩; rw [hw]; clear hw))
        go_roundg g'
        case measure => omega
        case rel => exact ⟨pos + 1, by omega, hit2, hbw2, HT.out⟩
    · have hnx := next_end l pos w.heap.size wr hit hlt
      have hT2 : wordL l = l := by rw [hT, List.drop_of_length_le (by omega), List.take_of_length_le (by omega)]; simp [wordL]
      have HT : Hid (wordL l = l) := hT2
      clear hT hT2
      go_wp2
      go_ret
      exact ⟨ret_str (by rw [HT.out]), hbw⟩

/-- What of a remark was seen, but not yet used. -/
def pend (a : Int) : Bs := if a = 40 then [40] else if a = 42 then [42] else []
theorem remP_nil (d : Nat) (a : Int) : remP d (pend a) = none := by unfold pend; split <;> (try split) <;> rfl
theorem remP_one {d : Nat} {c : UInt8} {r : Bs} (h : c.toNat ≠ 40 ∧ c.toNat ≠ 42) : remP d (c :: r) = (remP d r).map (· + 1) := by
  cases r with
  | nil => rfl
  | cons b r =>
    have h1 : ¬ (c = 40 ∧ b = 42) := fun e => h.1 (by rw [e.1]; rfl)
    have h2 : ¬ (c = 42 ∧ b = 41) := fun e => h.2 (by rw [e.1]; rfl)
    rw [remP, if_neg h1, if_neg h2]
def upTo (k : Nat) (o : Option Nat) : Option Nat := o.map (· + k)
theorem upTo_map (k j : Nat) (o : Option Nat) : upTo k (o.map (· + j)) = upTo (k + j) o := by cases o <;> simp [upTo]; omega
/-- The state of the search: within d remarks, the rune a seen last, at a place. -/
def remS (d : Nat) (a : Int) (l : Bs) (pos : Nat) : Option Nat := upTo (pos - (pend a).length) (remP d (pend a ++ l.drop pos))
theorem pend_len (a : Int) : (pend a).length ≤ 1 := by unfold pend; split <;> (try split) <;> simp
/-- A rune that neither opens nor closes anything. -/
theorem remS_plain {d : Nat} {a : Int} {l : Bs} {pos : Nat} (h : pos < l.length) (hpa : a ≠ 40 ∧ a ≠ 42 ∨ 1 ≤ pos) (ho : ¬ (a = 40 ∧ l[pos].toNat = 42)) (hc : ¬ (a = 42 ∧ l[pos].toNat = 41)) :
    remS d a l pos = remS d l[pos].toNat l (pos + 1) := by
  have step : remS d a l pos = upTo pos (remP d (l.drop pos)) := by
    unfold remS pend
    split
    · rename_i e
      subst e
      have hp : 1 ≤ pos := by omega
      rw [drop_cons h, List.cons_append, List.nil_append, remP, if_neg (fun e => ho ⟨rfl, by rw [e.2]; rfl⟩), if_neg (by simp), upTo_map]
      congr 1; simp; omega
    · split
      · rename_i e
        subst e
        have hp : 1 ≤ pos := by omega
        rw [drop_cons h, List.cons_append, List.nil_append, remP, if_neg (by simp), if_neg (fun e => hc ⟨rfl, by rw [e.2]; rfl⟩), upTo_map]
        congr 1; simp; omega
      · simp
  rw [step, drop_cons h]
  unfold remS pend
  split
  · rename_i e
    have : l[pos] = 40 := UInt8.toNat_inj.1 (by rw [show (40 : UInt8).toNat = 40 from rfl]; omega)
    rw [this]; simp
  · split
    · rename_i e
      have : l[pos] = 42 := UInt8.toNat_inj.1 (by rw [show (42 : UInt8).toNat = 42 from rfl]; omega)
      rw [this]; simp
    · rename_i e1 e2
      rw [remP_one ⟨by omega, by omega⟩, upTo_map]; simp
theorem pend40 : pend 40 = [40] := rfl
theorem pend42 : pend 42 = [42] := rfl
theorem pend0 : pend 0 = [] := rfl
theorem remS_open {d : Nat} {l : Bs} {pos : Nat} (h : pos < l.length) (hp : 1 ≤ pos) (hc : l[pos].toNat = 42) : remS d 40 l pos = remS (d + 1) 0 l (pos + 1) := by
  have e : l[pos] = 42 := UInt8.toNat_inj.1 (by rw [hc]; rfl)
  unfold remS
  rw [drop_cons h, e, pend40, pend0, List.cons_append, List.nil_append, List.nil_append, remP, if_pos ⟨rfl, rfl⟩, upTo_map]
  congr 1; simp; omega
theorem remS_close {d : Nat} {l : Bs} {pos : Nat} (h : pos < l.length) (hp : 1 ≤ pos) (hc : l[pos].toNat = 41) (hd : 2 ≤ d) : remS d 42 l pos = remS (d - 1) 0 l (pos + 1) := by
  have e : l[pos] = 41 := UInt8.toNat_inj.1 (by rw [hc]; rfl)
  unfold remS
  rw [drop_cons h, e, pend42, pend0, List.cons_append, List.nil_append, List.nil_append, remP, if_neg (by simp), if_pos ⟨rfl, rfl⟩, if_neg (by omega), upTo_map]
  congr 1; simp; omega
theorem remS_last {d : Nat} {l : Bs} {pos : Nat} (h : pos < l.length) (hp : 1 ≤ pos) (hc : l[pos].toNat = 41) (hd : d ≤ 1) : remS d 42 l pos = some (pos + 1) := by
  have e : l[pos] = 41 := UInt8.toNat_inj.1 (by rw [hc]; rfl)
  unfold remS
  rw [drop_cons h, e, pend42, List.cons_append, List.nil_append, remP, if_neg (by simp), if_pos ⟨rfl, rfl⟩, if_pos hd]
  simp [upTo]; omega
/-- High bytes in a row. -/
theorem remS_high {d : Nat} {l : Bs} : ∀ (K : Nat) {a : Int} {pos : Nat}, pos + (K + 1) ≤ l.length → (a ≠ 40 ∧ a ≠ 42 ∨ 1 ≤ pos) → (∀ j (hj : j < l.length), pos ≤ j → j < pos + (K + 1) → 128 ≤ l[j].toNat) → ∀ R : Int, 128 ≤ R → remS d a l pos = remS d R l (pos + (K + 1))
  | 0, a, pos, hl, hpa, hh, R, hR => by
    have h := hh pos (by omega) (by omega) (by omega)
    rw [remS_plain (by omega) hpa (by omega) (by omega)]
    unfold remS pend
    rw [if_neg (by omega), if_neg (by omega), if_neg (by omega), if_neg (by omega)]
  | K + 1, a, pos, hl, hpa, hh, R, hR => by
    have h := hh pos (by omega) (by omega) (by omega)
    rw [remS_plain (by omega) hpa (by omega) (by omega), remS_high K (pos := pos + 1) (by omega) (.inr (by omega)) (fun j hj h1 h2 => hh j hj (by omega) (by omega)) R hR]
    congr 1; omega
end Go.Proofs.YtllhcjmabhempaaDoor
