/-
  Contracts of the functions of layer 1 that lay words into bytes (the program's Put, the document's Word): which cells hold what behind each call, for every row of bytes, every place and every word.
-/
import Derived.Test.YtcppgpcgbggdcaaDoorGets
namespace Go.Proofs.YtcppgpcgbggdcaaDoor
open Go.ChangeShapes Go.WideShapes Go.ChangeAt Go.RowKit

def byteOf (v : Int) (k : Nat) : Int := v / 2 ^ (8 * k) % 256
theorem byteOf_bd (v : Int) (k : Nat) : 0 ≤ byteOf v k ∧ byteOf v k ≤ 255 := by unfold byteOf; omega

/-- What lies in a row behind the first k of a word's bytes were laid at its place p. -/
def partL (L : Nat → Int) (p : Nat) (v : Int) (k i : Nat) : Int := if p ≤ i ∧ i < p + k then byteOf v (i - p) else L i

structure PutRel (w wr : World) (g off len : Nat) (L : Nat → Int) (p : Nat) (v : Int) (k : Nat) : Prop where
  cells : ∀ i, i < len → wr.cell? ⟨g, off + i, none⟩ = some (.int .u8 (partL L p v k i))
  out : ∀ i, i < off ∨ off + len ≤ i → wr.cell? ⟨g, i, none⟩ = w.cell? ⟨g, i, none⟩
  free : ∀ i, i < len → wr.frozen? ⟨g, off + i, none⟩ = false
  below : Below g w wr
  size : wr.heap.size = w.heap.size

theorem PutRel.start {w : World} {g off len : Nat} {L : Nat → Int} {p : Nat} {v : Int} (hc : ∀ i, i < len → w.cell? ⟨g, off + i, none⟩ = some (.int .u8 (L i))) (hz : ∀ i, i < len → w.frozen? ⟨g, off + i, none⟩ = false) :
    PutRel w w g off len L p v 0 :=
  ⟨fun i hi => by rw [hc i hi, partL, if_neg (by omega)], fun _ _ => rfl, hz, Below.refl _ _, rfl⟩

theorem PutRel.next {w wr : World} {g off len : Nat} {L : Nat → Int} {p : Nat} {v : Int} {k : Nat} (h : PutRel w wr g off len L p v k) (hk : p + k < len) :
    PutRel w (wr.setCell ⟨g, off + (p + k), none⟩ (.int .u8 (byteOf v k))) g off len L p v (k + 1) := by
  refine ⟨fun i hi => ?_, fun i hi => ?_, fun i hi => by simpa using h.free i hi, h.below.setCell (Nat.le_refl _) _, by simpa [World.setCell] using h.size⟩
  · by_cases e : i = p + k
    · subst e
      rw [World.cell?_setCell_same wr _ _ (h.cells _ hi), partL, if_pos (by omega), show p + k - p = k by omega]
    · rw [World.cell?_setCell_other wr ⟨g, off + (p + k), none⟩ ⟨g, off + i, none⟩ _ (by simp), h.cells i hi]
      unfold partL
      by_cases c : p ≤ i ∧ i < p + k
      · rw [if_pos c, if_pos (by omega)]
      · rw [if_neg c, if_neg (by omega)]
  · rw [World.cell?_setCell_other wr ⟨g, off + (p + k), none⟩ ⟨g, i, none⟩ _ (by simp), h.out i hi]

/-- What lies in a row behind Put. -/
def putL (len : Nat) (L : Nat → Int) (at_ v : Int) (i : Nat) : Int := if fits len at_ then partL L at_.toNat v 4 i else L i

set_option maxRecDepth 20000 in
theorem put_any (g off len cap : Nat) (L : Nat → Int) (at_ v : Int) (w : World) (hm : len ≤ maxLen)
    (hc : ∀ i, i < len → w.cell? ⟨g, off + i, none⟩ = some (.int .u8 (L i))) (hz : ∀ i, i < len → w.frozen? ⟨g, off + i, none⟩ = false) :
    Calls Tryd.prog 97 #[.slice (some ⟨g, off, none⟩) len cap, .int .i64 at_, .int .u32 v] w fun e w' => e = .returned (.bool (fits len at_)) ∧
      (∀ i, i < len → w'.cell? ⟨g, off + i, none⟩ = some (.int .u8 (putL len L at_ v i))) ∧ (∀ i, i < off ∨ off + len ≤ i → w'.cell? ⟨g, i, none⟩ = w.cell? ⟨g, i, none⟩) ∧ Below g w w' ∧ w'.heap.size = w.heap.size := by
  by_cases hf : fits len at_ = true
  · have hf' := hf
    simp only [fits, decide_eq_true_eq] at hf'
    obtain ⟨p, rfl⟩ := Int.eq_ofNat_of_zero_le hf'.1
    have hs := PutRel.start (p := p) (v := v) hc hz
    have HF : Hid (fits len (p : Int) = true) := hf
    clear hc hz
    unfold maxLen at hm
    go_enter Tryd.func97, Tryd.ntmps97
    go_wp2_with (go_at_call 105; refine (holdsWord_any _ _ _ _ _ (by unfold maxLen; omega)).mono ?_; rw [hf]; rintro e w' ⟨rfl, rfl⟩)
    go_loopw [12] (fun i wr => ∃ k : Nat, k ≤ 4 ∧ i = .int .i64 k ∧ PutRel w' wr g off len L p v k) (fun i _ => 4 - (intOf i).toNat)
    case atStart => exact ⟨0, by omega, rfl, hs⟩
    case round =>
      obtain ⟨k, hk, rfl, hr⟩ := hrel
      clear hs hf
      by_cases hlt : k < 4
      · have c1 := hr.cells (p + k) (by omega)
        have c2 := hr.free (p + k) (by omega)
        have hn := hr.next (by omega)
        go_wp2
        go_roundw
        case rel => exact ⟨k + 1, by omega, by go_num, hn⟩
        case measure => simp [intOf]; omega
      · obtain rfl : k = 4 := by omega
        go_wp2
        go_ret
        refine ⟨ret_bool HF.out.symm, fun i hi => ?_, hr.out, hr.below, hr.size⟩
        rw [hr.cells i hi, putL, if_pos HF.out, Int.toNat_natCast]
  · have hf0 : fits len at_ = false := by simpa using hf
    go_enter Tryd.func97, Tryd.ntmps97
    go_wp2_with (go_at_call 105; refine (holdsWord_any _ _ _ _ _ hm).mono ?_; rw [hf0]; rintro e w' ⟨rfl, rfl⟩)
    go_ret
    exact ⟨ret_bool hf0.symm, fun i hi => by rw [hc i hi, putL, if_neg hf], fun _ _ => rfl, Below.refl _ _, rfl⟩

theorem info5 : (Tryd.prog.info? 5).map (fun i => (i.zero, i.size, i.bytes)) = some (some (.int .u8 0), 1, 1) := by kernel_rfl
def bytesOf (v : Int) (k : Nat) : List Value := (List.range k).map fun j => .int .u8 (byteOf v j)
theorem bytesOf_succ (v : Int) (k : Nat) : bytesOf v (k + 1) = bytesOf v k ++ [.int .u8 (byteOf v k)] := by simp [bytesOf, List.range_succ]

set_option maxRecDepth 20000 in
theorem rword_any (v : Int) (w : World) (v0 : 0 ≤ v) (v1 : v ≤ 4294967295) :
    Calls Tryd.prog 32 #[.int .u32 v] w fun e w' => ∃ x, e = .returned x ∧ w'.ownsRow w.heap.size 5 1 x 4 (bytesOf v 4) ∧ Below w.heap.size w w' := by
  obtain ⟨i0, hi, hz0, hz1, hz2⟩ := info_parts info5
  obtain ⟨B, hB⟩ : ∃ B, B = w.heap.size := ⟨_, rfl⟩
  rw [← hB]
  have HB : Hid (B = w.heap.size) := hB
  clear hB
  go_enter Tryd.func32, Tryd.ntmps32
  go_wp2
  go_loopw [0, 3, 4] (fun x s i wr => ∃ k : Nat, k ≤ 4 ∧ i = .int .i64 k ∧ x = .int .u32 (v / 2 ^ (8 * k)) ∧ wr.ownsRow B 5 1 s k (bytesOf v k) ∧ Below B w wr) (fun _ _ i _ => 4 - (intOf i).toNat)
  case atStart => exact ⟨0, by omega, rfl, by simp, World.ownsRow_nil _ _ _ _, Below.refl _ _⟩
  case round =>
    obtain ⟨k, hk, rfl, rfl, hown, hbel⟩ := hrel
    have hb : 0 ≤ v / 2 ^ (8 * k) ∧ v / 2 ^ (8 * k) ≤ 4294967295 := ⟨Int.ediv_nonneg v0 (Int.le_of_lt (Int.pow_pos (by omega))), Int.le_trans (Int.ediv_le_self _ v0) v1⟩
    have HS : Hid (v / 2 ^ (8 * k) / 256 = v / 2 ^ (8 * (k + 1))) := by
      show v / 2 ^ (8 * k) / 256 = v / 2 ^ (8 * (k + 1))
      rw [Nat.mul_add, Int.pow_add, Int.ediv_ediv_of_nonneg (Int.le_of_lt (Int.pow_pos (by omega)))]
      rfl
    have hsz := hbel.size
    have hBr : B ≤ wr.heap.size := by rw [HB.out]; exact hsz
    by_cases hlt : k < 4
    · go_wp2_with (first
        | (at_builtin; refine wpList_append_own _ rfl _ _ 30 rfl B 5 i0 (.int .u8 0) 1 1 Tryd.underlying30 hi hz0 hz1 hz2 rfl (by decide) _ _ _ rfl (hown.alloc _) ⟨wr.heap.size, 0, none⟩ 1 1 [.int .u8 (v / 2 ^ (8 * k) % 256)] rfl rfl ?c1 ?c2 ?c3 ?c4 ?c5 ?_)
        | go_in)
      case c1 =>
        intro j u hj
        match j, hj with
        | 0, hj => simp at hj; subst hj; simp [Addr.add]
      case c2 => intro u hu; simp at hu; subst hu; rfl
      case c3 => unfold maxLen; omega
      case c4 => omega
      case c5 => simp; omega
      · intro s' w1 hown' hgrow _
        have hbel' : Below B w w1 := (hbel.alloc hBr _).grown hgrow (by simp; omega) (fun g hg => (hown.lt g hg).1)
        have hown2 : w1.ownsRow B 5 1 s' (k + 1) (bytesOf v (k + 1)) := by rw [bytesOf_succ]; exact hown'
        clear hown' hgrow hown
        go_wp2
        go_roundw
        case rel => exact ⟨k + 1, by omega, by go_num, by rw [← HS.out], hown2, hbel'⟩
        case measure => simp [intOf]; omega
    · obtain rfl : k = 4 := by omega
      go_wp2
      go_ret
      exact ⟨_, rfl, hown, hbel⟩
end Go.Proofs.YtcppgpcgbggdcaaDoor
