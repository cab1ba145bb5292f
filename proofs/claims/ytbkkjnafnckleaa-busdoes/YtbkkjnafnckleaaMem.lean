/-
  Memory's bytes and words, loaded and stored.
-/
import Derived.Test.YtbkkjnafnckleaaPlain
namespace Go.Proofs.Ytbkkjnafnckleaa
open Go.ChangeShapes Go.WideShapes Go.ChangeAt Go.RowKit
attribute [local go_sem ↓] loadSec_seal storeSec_seal eqlSec_seal zeroSec
attribute [local go_sem] loadSec_run storeSec_run rowAt_at rowAt_old rowAt_drew rowAt_drewN roomSec_new roomAt_old roomAt_drew roomAt_drewN putSec_new putRow_past rowSec_put size_put putRow_drew putRow_drewN alloc_drewN setCell_drewN sec_size

set_option linter.unusedVariables false

theorem mem_rd {w : World} {b : Nat} {P : Ph} {L : Lg} (h : Bus w b P L) : RdB w (some ⟨P.mb, 0, none⟩) 1048576 L.M := h.mem.rd (by decide) h.byte
theorem loadByte_out (b : Nat) (P : Ph) (L : Lg) (a : Int) (w : World) (h : Bus w b P L) (a0 : 0 ≤ a) (a1 : a ≤ 4294967295) (ha : 1048576 ≤ a) : Calls Try.prog 43 #[.pointer (some ⟨b, 0, none⟩), .int .u32 a] w fun e w' => e = .returned (.tuple #[.int .u32 0, .int .i64 1]) ∧ w' = w := by
  have H : Hid (Bus w b P L) := h
  have hd : decide (a < 1048576) = false := by simp; omega
  clear h
  go_enter Try.func43, Try.ntmps43
  go_wp2_with (go_at_call 69; refine (isMemory_any b P L a _ H.out a0 a1).mono ?_; rw [hd]; rintro e w1 ⟨rfl, hw⟩; obtain rfl := hw.symm)
  go_ret2
  exact ⟨rfl, rfl⟩
theorem loadByte_in (b : Nat) (P : Ph) (L : Lg) (a : Nat) (w : World) (h : Bus w b P L) (ha : a < 1048576) : Calls Try.prog 43 #[.pointer (some ⟨b, 0, none⟩), .int .u32 a] w fun e w' => e = .returned (.tuple #[.int .u32 (L.M a), .int .i64 0]) ∧ w' = w := by
  have H : Hid (Bus w b P L) := h
  have hd : decide ((a : Int) < 1048576) = true := by simp; omega
  have c0 := h.nine.c0
  have c1 := (h.mem.at ha).1
  have v := h.byte a ha
  have i0 : (0 : Int) ≤ (a : Int) := by omega
  have i1 : (a : Int) < 1048576 := by omega
  clear h
  go_enter Try.func43, Try.ntmps43
  go_wp2_with (go_at_call 69; refine (isMemory_any b P L a _ H.out (by omega) (by omega)).mono ?_; rw [hd]; rintro e w1 ⟨rfl, hw⟩; obtain rfl := hw.symm)
  go_ret2
  exact ⟨rfl, rfl⟩
theorem storeByte_out (b : Nat) (P : Ph) (L : Lg) (a v : Int) (w : World) (h : Bus w b P L) (a0 : 0 ≤ a) (a1 : a ≤ 4294967295) (ha : 1048576 ≤ a) : Calls Try.prog 45 #[.pointer (some ⟨b, 0, none⟩), .int .u32 a, .int .u8 v] w fun e w' => e = .returned (.int .i64 1) ∧ w' = w := by
  have H : Hid (Bus w b P L) := h
  have hd : decide (a < 1048576) = false := by simp; omega
  clear h
  go_enter Try.func45, Try.ntmps45
  go_wp2_with (go_at_call 69; refine (isMemory_any b P L a _ H.out a0 a1).mono ?_; rw [hd]; rintro e w1 ⟨rfl, hw⟩; obtain rfl := hw.symm)
  go_ret
  exact ⟨rfl, rfl⟩
theorem upd_byte {M : Nat → Int} {n : Nat} (h : ∀ i, i < n → 0 ≤ M i ∧ M i ≤ 255) (a : Nat) {v : Int} (v0 : 0 ≤ v) (v1 : v ≤ 255) : ∀ i, i < n → 0 ≤ upd M a v i ∧ upd M a v i ≤ 255 := fun i hi => by
  unfold upd; split
  · exact ⟨v0, v1⟩
  · exact h i hi
theorem storeByte_in (b : Nat) (P : Ph) (L : Lg) (a : Nat) (v : Int) (w : World) (h : Bus w b P L) (ha : a < 1048576) (v0 : 0 ≤ v) (v1 : v ≤ 255) : Calls Try.prog 45 #[.pointer (some ⟨b, 0, none⟩), .int .u32 a, .int .u8 v] w fun e w' => e = .returned (.int .i64 0) ∧ Stp w b P w' P { L with M := upd L.M a v } := by
  have H : Hid (Bus w b P L) := h
  have hd : decide ((a : Int) < 1048576) = true := by simp; omega
  have c0 := h.nine.c0
  have c1 := (h.mem.at ha).1
  have c2 := (h.mem.at ha).2
  have i0 : (0 : Int) ≤ (a : Int) := by omega
  have i1 : (a : Int) < 1048576 := by omega
  clear h
  go_enter Try.func45, Try.ntmps45
  go_wp2_with (go_at_call 69; refine (isMemory_any b P L a _ H.out (by omega) (by omega)).mono ?_; rw [hd]; rintro e w1 ⟨rfl, hw⟩; obtain rfl := hw.symm)
  go_ret
  exact ⟨rfl, Stp.mem H.out ((Tou.refl (fun x => x = P.mb) _).set ⟨P.mb, a, none⟩ rfl _) (H.out.mem.set ha v) (upd_byte H.out.byte a v0 v1)⟩
def isW (a : Int) : Bool := decide (a % 4 = 0 ∧ a < 1048576)
theorem fits_isW {a : Int} (a0 : 0 ≤ a) (h4 : a % 4 = 0) : fits 1048576 a = isW a := by
  unfold fits isW; exact decide_eq_decide.2 ⟨fun h => ⟨h4, by omega⟩, fun h => ⟨a0, by omega⟩⟩
def gotV (M : Nat → Int) (a : Int) : Int := if isW a then wordAt M a else 0
theorem word_any (b : Nat) (P : Ph) (L : Lg) (a : Int) (w : World) (h : Bus w b P L) (a0 : 0 ≤ a) (a1 : a ≤ 4294967295) : Calls Try.prog 18 #[.pointer (some ⟨b, 0, none⟩), .int .u32 a] w fun e w' => e = .returned (.tuple #[.int .u32 (gotV L.M a), .bool (isW a)]) ∧ Below w.heap.size w w' := by
  have HM : Hid (RdB w (some ⟨P.mb, 0, none⟩) 1048576 L.M) := mem_rd h
  have c0 := h.nine.c0
  clear h
  by_cases h4 : a % 4 = 0
  · have HF : Hid (fits 1048576 a = isW a) := fits_isW a0 h4
    go_enter Try.func18, Try.ntmps18
    go_wp2_with (go_at_call 46; refine (get_any _ 1048576 _ L.M _ _ HM.out).mono ?_; rintro e w1 ⟨rfl, hb⟩)
    go_ret2
    exact ⟨ret2b (by unfold gotW gotV; rw [HF.out]) HF.out, hb⟩
  · have hw : isW a = false := by unfold isW; simp [h4]
    have HW : Hid (isW a = false) := hw
    clear hw
    go_enter Try.func18, Try.ntmps18
    go_wp2
    go_ret2
    exact ⟨ret2b (by unfold gotV; rw [HW.out]; rfl) HW.out.symm, Below.refl _ _⟩
theorem part_byte {M : Nat → Int} {n : Nat} (h : ∀ i, i < n → 0 ≤ M i ∧ M i ≤ 255) (p : Nat) (v : Int) (k : Nat) : ∀ i, i < n → 0 ≤ partL M p v k i ∧ partL M p v k i ≤ 255 := fun i hi => by
  unfold partL; split
  · exact byteOf_bd _ _
  · exact h i hi
def pokeM (M : Nat → Int) (a v : Int) : Nat → Int := if isW a then partL M a.toNat v 4 else M
theorem poke_byte {M : Nat → Int} {n : Nat} (h : ∀ i, i < n → 0 ≤ M i ∧ M i ≤ 255) (a v : Int) : ∀ i, i < n → 0 ≤ pokeM M a v i ∧ pokeM M a v i ≤ 255 := fun i hi => by
  unfold pokeM; split
  · exact part_byte h _ _ _ i hi
  · exact h i hi
theorem poke_any (b : Nat) (P : Ph) (L : Lg) (a v : Int) (w : World) (h : Bus w b P L) (a0 : 0 ≤ a) (a1 : a ≤ 4294967295) : Calls Try.prog 23 #[.pointer (some ⟨b, 0, none⟩), .int .u32 a, .int .u32 v] w fun e w' => e = .returned (.bool (isW a)) ∧ Stp w b P w' P { L with M := pokeM L.M a v } := by
  have H : Hid (Bus w b P L) := h
  have c0 := h.nine.c0
  clear h
  by_cases h4 : a % 4 = 0
  · have HF : Hid (fits 1048576 a = isW a) := fits_isW a0 h4
    go_enter Try.func23, Try.ntmps23
    go_wp2_with (go_at_call 40; refine (put_any P.mb 1048576 _ L.M _ _ _ (by decide) H.out.mem).mono ?_; rintro e w1 ⟨rfl, hr, ht, hz⟩)
    go_ret
    refine ⟨ret_bool HF.out, Stp.mem H.out ht (hr.ext fun i _ => ?_) (poke_byte H.out.byte a v)⟩
    unfold putL pokeM; rw [HF.out]; split <;> rfl
  · have hw : isW a = false := by unfold isW; simp [h4]
    have HW : Hid (isW a = false) := hw
    clear hw
    go_enter Try.func23, Try.ntmps23
    go_wp2
    go_ret
    refine ⟨ret_bool HW.out.symm, ?_⟩
    have e : pokeM L.M a v = L.M := by unfold pokeM; rw [HW.out]; rfl
    rw [e]; exact Stp.refl H.out
end Go.Proofs.Ytbkkjnafnckleaa
