/-
  The document's devices: what is fed, what is loaded.
  A byte is laid into the document's memory.
  A command of the document's bus.
-/
import Derived.Test.YteegkhnikcioiaaGreatDoorMRCut
import Derived.Lib.Strings
import Derived.Deep.RegionWith
namespace Go.Proofs.YteegkhnikcioiaaGreatDoor
open Go.ChangeShapes Go.WideShapes Go.ChangeAt Go.RowKit
attribute [local go_sem ↓] loadSec_seal storeSec_seal eqlSec_seal zeroSec
attribute [local go_sem] loadSec_run storeSec_run rowAt_at rowAt_old rowAt_drew rowAt_drewN roomSec_new roomAt_old roomAt_drew roomAt_drewN putSec_new putRow_past rowSec_put size_put putRow_drew putRow_drewN alloc_drewN setCell_drewN sec_size

set_option linter.unusedVariables false

theorem bytesL_app (s t : ByteArray) : bytesL (s ++ t) = bytesL s ++ bytesL t := by
  unfold bytesL
  rw [ByteArray.data_append]
  simp
theorem rfeed_full (r : Nat) (P : RPh) (L : Lg) (s : ByteArray) (w : World) (h : RBus w r P L) (hs : s.size ≤ maxLen) (hf : 65536 < s.size + L.I.length) : Calls Tryz.prog 31 #[.pointer (some ⟨r, 0, none⟩), .string s] w fun e w' => e = .returned (.int .i64 40) ∧ w' = w := by
  have c2 := h.eight.c2
  have hl := h.il
  have hz : L.I.length = P.In.size := by rw [← h.inp, bytesL_len]
  rw [hz] at hf hl
  have h1 : (65536 : Int) - (P.In.size : Int) < (s.size : Int) := by omega
  unfold maxLen at hs
  clear h hz
  go_enter Tryz.func31, Tryz.ntmps31
  go_wp2
  go_ret
  exact ⟨rfl, rfl⟩
theorem rin_end {w : World} {r : Nat} {P : RPh} {L : Lg} (h : RBus w r P L) {In' : ByteArray} {I' : List Int} (hI : bytesL In' = I') (hl : I'.length ≤ 65536) : RStp w r P (w.setCell ⟨r, 2, none⟩ (.string In')) { P with In := In' } { L with I := I' } := by
  obtain ⟨t, ht⟩ := h.tag
  have hc : RCore w r { P with In := In' } { L with I := I' } := { h.toRCore with inp := hI, il := hl, tag := ⟨t, ⟨ht.r, ht.mb, ht.pa, ht.R⟩⟩, lt := h.lt }
  exact ⟨hc.put h.blk h.room 2 _ rfl, (Tou.refl _ _).set ⟨r, 2, none⟩ (.inl rfl) _, fun _ hx => .inl hx⟩
theorem rfeed_ok (r : Nat) (P : RPh) (L : Lg) (s : ByteArray) (w : World) (h : RBus w r P L) (hf : s.size + L.I.length ≤ 65536) : Calls Tryz.prog 31 #[.pointer (some ⟨r, 0, none⟩), .string s] w fun e w' => e = .returned (.int .i64 0) ∧ ∃ P', RStp w r P w' P' { L with I := L.I ++ bytesL s } := by
  have c2 := h.eight.c2
  have f2 := h.free (j := 2) (by omega)
  have hz : L.I.length = P.In.size := by rw [← h.inp, bytesL_len]
  have HE : Hid (RStp w r P (w.setCell ⟨r, 2, none⟩ (.string (P.In ++ s))) { P with In := P.In ++ s } { L with I := L.I ++ bytesL s }) := rin_end h (by rw [bytesL_app, h.inp]) (by rw [List.length_append, bytesL_len]; omega)
  rw [hz] at hf
  have h1 : ¬ (65536 : Int) - (P.In.size : Int) < (s.size : Int) := by omega
  have h2 : P.In.size + s.size ≤ 9223372036854775807 := by omega
  clear h hz
  go_enter Tryz.func31, Tryz.ntmps31
  go_wp2
  go_ret
  exact ⟨rfl, _, HE.out⟩
theorem rload_none (r : Nat) (P : RPh) (L : Lg) (w : World) (h : RBus w r P L) (hI : L.I = []) : Calls Tryz.prog 90 #[.pointer (some ⟨r, 0, none⟩), .int .u32 4294967236] w fun e w' => e = .returned (.tuple #[.int .u32 0, .int .i64 2]) ∧ w' = w := by
  have c2 := h.eight.c2
  have hz : P.In.size = 0 := by rw [← bytesL_len, h.inp, hI]; rfl
  have hi : P.In = ⟨#[]⟩ := ByteArray.ext (Array.eq_empty_of_size_eq_zero hz)
  rw [hi] at c2
  clear h hz hi
  go_enter Tryz.func90, Tryz.ntmps90
  go_wp2
  go_ret2
  exact ⟨rfl, rfl⟩
theorem nil_empty {s : ByteArray} (h : s.size = 0) : s.toList.isEmpty = true := by
  rw [ByteArray.toList_eq]
  have : s.data.toList.length = 0 := by simpa using h
  simp [List.length_eq_zero_iff.1 this]
theorem some_empty {s : ByteArray} (h : 0 < s.size) : s.toList.isEmpty = false := by
  rw [ByteArray.toList_eq]
  have : 0 < s.data.toList.length := by simpa using h
  cases hl : s.data.toList with
  | nil => rw [hl] at this; simp at this
  | cons _ _ => rfl
theorem bytesL_head {s : ByteArray} {x : Int} {rr : List Int} (h : bytesL s = x :: rr) (hz : 0 < s.size) : ((s[0]'hz).toNat : Int) = x ∧ ∀ n, n = s.size → bytesL (s.extract 1 n) = rr := by
  unfold bytesL at h
  have h0 := congrArg (fun l => l[0]?) h
  refine ⟨?_, fun n hn => ?_⟩
  · have e : s.data.toList[0]? = some (s[0]'hz) := by
      have : 0 < s.data.toList.length := by simpa using hz
      rw [List.getElem?_eq_getElem this]; rfl
    simp only [List.getElem?_map, e] at h0
    simpa using h0
  · subst hn
    unfold bytesL
    rw [Lib.extract_data, List.take_of_length_le (by simp), List.map_drop, h]; rfl
theorem rload_some (r : Nat) (P : RPh) (L : Lg) (w : World) (x : Int) (rr : List Int) (h : RBus w r P L) (hI : L.I = x :: rr) : Calls Tryz.prog 90 #[.pointer (some ⟨r, 0, none⟩), .int .u32 4294967236] w fun e w' => e = .returned (.tuple #[.int .u32 x, .int .i64 0]) ∧ ∃ P', RStp w r P w' P' { L with I := rr } := by
  have c2 := h.eight.c2
  have f2 := h.free (j := 2) (by omega)
  have hz : P.In.size = rr.length + 1 := by rw [← bytesL_len, h.inp, hI]; rfl
  have hb := bytesL_head (h.inp.trans hI) (by omega)
  have hl := h.il
  rw [hI] at hl
  simp only [List.length_cons] at hl
  have HX : Hid (∀ hz, ((P.In[0]'hz).toNat : Int) = x) := fun _ => hb.1
  have HE : Hid (RStp w r P (w.setCell ⟨r, 2, none⟩ (.string (P.In.extract 1 (rr.length + 1)))) { P with In := P.In.extract 1 (rr.length + 1) } { L with I := rr }) := rin_end h (hb.2 _ hz.symm) (by omega)
  have HB : Hid (0 ≤ x ∧ x ≤ 255) := by
    show 0 ≤ x ∧ x ≤ 255
    exact bytesL_byte P.In x (by rw [h.inp, hI]; simp)
  have hem : P.In.toList.isEmpty = false := some_empty (by omega)
  clear h hb hI
  go_enter Tryz.func90, Tryz.ntmps90
  go_wp2
  go_ret2
  exact ⟨ret2i (by have := HX.out (by omega); have := HB.out; omega) rfl, _, HE.out⟩
theorem rload_0 (r : Nat) (P : RPh) (L : Lg) (w : World) (h : RBus w r P L) : Calls Tryz.prog 90 #[.pointer (some ⟨r, 0, none⟩), .int .u32 4294967232] w fun e w' => e = .returned (.tuple #[.int .u32 L.tk, .int .i64 0]) ∧ w' = w := by
  have c2 := h.eight.c4
  clear h
  go_enter Tryz.func90, Tryz.ntmps90
  go_wp2
  go_ret2
  exact ⟨rfl, rfl⟩
theorem rload_3 (r : Nat) (P : RPh) (L : Lg) (w : World) (h : RBus w r P L) : Calls Tryz.prog 90 #[.pointer (some ⟨r, 0, none⟩), .int .u32 4294967244] w fun e w' => e = .returned (.tuple #[.int .u32 L.sc, .int .i64 0]) ∧ w' = w := by
  have c2 := h.eight.c5
  clear h
  go_enter Tryz.func90, Tryz.ntmps90
  go_wp2
  go_ret2
  exact ⟨rfl, rfl⟩
theorem rload_4 (r : Nat) (P : RPh) (L : Lg) (w : World) (h : RBus w r P L) : Calls Tryz.prog 90 #[.pointer (some ⟨r, 0, none⟩), .int .u32 4294967248] w fun e w' => e = .returned (.tuple #[.int .u32 L.ad, .int .i64 0]) ∧ w' = w := by
  have c2 := h.eight.c6
  clear h
  go_enter Tryz.func90, Tryz.ntmps90
  go_wp2
  go_ret2
  exact ⟨rfl, rfl⟩
theorem rload_5 (r : Nat) (P : RPh) (L : Lg) (w : World) (h : RBus w r P L) : Calls Tryz.prog 90 #[.pointer (some ⟨r, 0, none⟩), .int .u32 4294967252] w fun e w' => e = .returned (.tuple #[.int .u32 L.cm, .int .i64 0]) ∧ w' = w := by
  have c2 := h.eight.c7
  clear h
  go_enter Tryz.func90, Tryz.ntmps90
  go_wp2
  go_ret2
  exact ⟨rfl, rfl⟩
theorem rload_2 (r : Nat) (P : RPh) (L : Lg) (w : World) (h : RBus w r P L) : Calls Tryz.prog 90 #[.pointer (some ⟨r, 0, none⟩), .int .u32 4294967240] w fun e w' => e = .returned (.tuple #[.int .u32 (if L.I = [] then 2 else 3), .int .i64 0]) ∧ w' = w := by
  have c2 := h.eight.c2
  have hz : L.I.length = P.In.size := by rw [← h.inp, bytesL_len]
  clear h
  by_cases hI : L.I = []
  · have hem : P.In.toList.isEmpty = true := nil_empty (by rw [← hz, hI]; rfl)
    rw [if_pos hI]
    clear hz hI
    go_enter Tryz.func90, Tryz.ntmps90
    go_wp2
    go_ret2
    exact ⟨rfl, rfl⟩
  · have hem : P.In.toList.isEmpty = false := some_empty (by rw [← hz]; exact List.length_pos_iff.2 hI)
    rw [if_neg hI]
    clear hz hI
    go_enter Tryz.func90, Tryz.ntmps90
    go_wp2
    go_ret2
    exact ⟨rfl, rfl⟩
theorem rload_6 (r : Nat) (P : RPh) (L : Lg) (w : World) (h : RBus w r P L) : Calls Tryz.prog 90 #[.pointer (some ⟨r, 0, none⟩), .int .u32 4294967256] w fun e w' => e = .returned (.tuple #[.int .u32 L.n, .int .i64 0]) ∧ w' = w := by
  have c2 := h.eight.c1
  have H : Hid (RBus w r P L) := h
  have HN : Hid (P.R.n = L.n) := h.dn
  have n1 := h.dsk.n1
  clear h
  go_enter Tryz.func90, Tryz.ntmps90
  go_wp2_with (go_at_call 113; refine (rsecs_any P.rd P.R _ H.out.dsk).mono ?_; rintro e w1 ⟨rfl, hw⟩; obtain rfl := hw.symm)
  go_ret2
  exact ⟨by rw [← HN.out]; rfl, rfl⟩
theorem rload_7 (r : Nat) (P : RPh) (L : Lg) (a : Int) (w : World) (hk : devN a = 7) : Calls Tryz.prog 90 #[.pointer (some ⟨r, 0, none⟩), .int .u32 a] w fun e w' => e = .returned (.tuple #[.int .u32 0, .int .i64 1]) ∧ w' = w := by
  have hd : ¬ a = 4294967232 ∧ ¬ a = 4294967236 ∧ ¬ a = 4294967240 ∧ ¬ a = 4294967244 ∧ ¬ a = 4294967248 ∧ ¬ a = 4294967252 ∧ ¬ a = 4294967256 := by
    refine ⟨fun e => ?_, fun e => ?_, fun e => ?_, fun e => ?_, fun e => ?_, fun e => ?_, fun e => ?_⟩ <;> (rw [e] at hk; exact absurd hk (by decide))
  obtain ⟨d0, d1, d2, d3, d4, d5, d6⟩ := hd
  clear hk
  go_enter Tryz.func90, Tryz.ntmps90
  go_wp2
  go_ret2
  exact ⟨rfl, rfl⟩
theorem dev_const (a : Int) : (devN a = 0 → a = 4294967232) ∧ (devN a = 1 → a = 4294967236) ∧ (devN a = 2 → a = 4294967240) ∧ (devN a = 3 → a = 4294967244) ∧ (devN a = 4 → a = 4294967248) ∧ (devN a = 5 → a = 4294967252) ∧ (devN a = 6 → a = 4294967256) := by
  unfold devN
  repeat (first | omega | split)
theorem rloaded_any (r : Nat) (P : RPh) (L : Lg) (a : Int) (w : World) (h : RBus w r P L) : Calls Tryz.prog 90 #[.pointer (some ⟨r, 0, none⟩), .int .u32 a] w fun e w' => e = .returned (.tuple #[.int .u32 (L.dev (devN a)).1.1, .int .i64 (L.dev (devN a)).1.2]) ∧ ∃ P', RStp w r P w' P' (L.dev (devN a)).2 := by
  have h7 := devN_le a
  have hc := dev_const a
  have stay : ∀ {x y : Int}, (Calls Tryz.prog 90 #[.pointer (some ⟨r, 0, none⟩), .int .u32 a] w fun e w' => e = .returned (.tuple #[.int .u32 x, .int .i64 y]) ∧ w' = w) → (Calls Tryz.prog 90 #[.pointer (some ⟨r, 0, none⟩), .int .u32 a] w fun e w' => e = .returned (.tuple #[.int .u32 x, .int .i64 y]) ∧ ∃ P', RStp w r P w' P' L) := fun hh => hh.mono fun e w' ⟨he, hw⟩ => ⟨he, P, by rw [hw]; exact RStp.refl h⟩
  have hk : devN a = 0 ∨ devN a = 1 ∨ devN a = 2 ∨ devN a = 3 ∨ devN a = 4 ∨ devN a = 5 ∨ devN a = 6 ∨ devN a = 7 := by omega
  rcases hk with hk | hk | hk | hk | hk | hk | hk | hk
  · have e := hc.1 hk; rw [hk]; subst e; exact stay (rload_0 r P L w h)
  · have e := hc.2.1 hk; rw [hk]; subst e
    unfold Lg.dev
    rcases hI : L.I with _ | ⟨x, rr⟩
    · exact stay (rload_none r P L w h hI)
    · exact rload_some r P L w x rr h hI
  · have e := hc.2.2.1 hk; rw [hk]; subst e; exact stay (rload_2 r P L w h)
  · have e := hc.2.2.2.1 hk; rw [hk]; subst e; exact stay (rload_3 r P L w h)
  · have e := hc.2.2.2.2.1 hk; rw [hk]; subst e; exact stay (rload_4 r P L w h)
  · have e := hc.2.2.2.2.2.1 hk; rw [hk]; subst e; exact stay (rload_5 r P L w h)
  · have e := hc.2.2.2.2.2.2 hk; rw [hk]; subst e; exact stay (rload_6 r P L w h)
  · rw [hk]; exact stay (rload_7 r P L a w hk)
end Go.Proofs.YteegkhnikcioiaaGreatDoor

namespace Go.Proofs.YteegkhnikcioiaaGreatDoor
open Go.ChangeShapes Go.WideShapes Go.ChangeAt Go.RowKit
attribute [local go_sem ↓] loadSec_seal storeSec_seal eqlSec_seal zeroSec
attribute [local go_sem] loadSec_run storeSec_run rowAt_at rowAt_old rowAt_drew rowAt_drewN roomSec_new roomAt_old roomAt_drew roomAt_drewN putSec_new putRow_past rowSec_put size_put putRow_drew putRow_drewN alloc_drewN setCell_drewN sec_size

set_option linter.unusedVariables false

theorem lay_nat (x c p : Nat) (hx : x < 2 ^ 32) (hc : c < 256) (hp : p + 8 ≤ 32) : (x &&& ((2 ^ (32 - (p + 8)) - 1) * 2 ^ (p + 8) + (2 ^ p - 1))) ||| (c * 2 ^ p) = x / 2 ^ (p + 8) * 2 ^ (p + 8) + c * 2 ^ p + x % 2 ^ p := by
  have p0 : 0 < 2 ^ p := Nat.pow_pos (by decide)
  have p8 : 0 < 2 ^ (p + 8) := Nat.pow_pos (by decide)
  have e8 : 2 ^ (p + 8) = 2 ^ p * 256 := by rw [Nat.pow_add]
  have lt8 : 2 ^ p - 1 < 2 ^ (p + 8) := by rw [e8]; omega
  have clt : c * 2 ^ p < 2 ^ (p + 8) := by rw [e8, Nat.mul_comm]; exact Nat.mul_lt_mul_of_pos_left hc p0
  have h32 : 2 ^ 32 = 2 ^ (32 - (p + 8)) * 2 ^ (p + 8) := by rw [← Nat.pow_add]; congr 1; omega
  have xhi : x / 2 ^ (p + 8) < 2 ^ (32 - (p + 8)) := by rw [Nat.div_lt_iff_lt_mul p8, ← h32]; exact hx
  generalize hm : (2 ^ (32 - (p + 8)) - 1) * 2 ^ (p + 8) + (2 ^ p - 1) = m
  have m1 : m / 2 ^ (p + 8) = 2 ^ (32 - (p + 8)) - 1 := by rw [← hm, Nat.mul_comm, Nat.mul_add_div p8, Nat.div_eq_of_lt lt8, Nat.add_zero]
  have m2 : m % 2 ^ (p + 8) = 2 ^ p - 1 := by rw [← hm, Nat.mul_comm, Nat.mul_add_mod, Nat.mod_eq_of_lt lt8]
  generalize hr : (x &&& m) ||| (c * 2 ^ p) = r
  have r1 : r / 2 ^ (p + 8) = x / 2 ^ (p + 8) := by
    rw [← hr, Nat.or_div_two_pow, Nat.and_div_two_pow, m1, Nat.and_two_pow_sub_one_eq_mod, Nat.mod_eq_of_lt xhi, Nat.div_eq_of_lt clt, Nat.or_zero]
  have r2 : r % 2 ^ (p + 8) = x % 2 ^ p + c * 2 ^ p := by
    rw [← hr, Nat.or_mod_two_pow, Nat.and_mod_two_pow, m2, Nat.and_two_pow_sub_one_eq_mod, Nat.mod_eq_of_lt clt, Nat.mod_mod_of_dvd _ ⟨256, e8⟩, Nat.or_comm, Nat.mul_comm, ← Nat.two_pow_add_eq_or_of_lt (Nat.mod_lt _ p0), Nat.mul_comm, Nat.add_comm]
  have := Nat.div_add_mod r (2 ^ (p + 8))
  rw [r1, r2, Nat.mul_comm] at this
  omega

theorem bits_and_u32_nat (a b : Nat) (ha : a < 4294967296) (hb : b < 4294967296) : bits .and .u32 (a : Int) (b : Int) = ((a &&& b : Nat) : Int) := by
  have hx : a &&& b < 2 ^ 32 := Nat.and_lt_two_pow _ (by omega)
  have h1 : (BitVec.ofInt 32 (a : Int)).toNat = a := by
    rw [BitVec.ofInt_natCast, BitVec.toNat_ofNat]; exact Nat.mod_eq_of_lt (by omega)
  have h2 : (BitVec.ofInt 32 (b : Int)).toNat = b := by
    rw [BitVec.ofInt_natCast, BitVec.toNat_ofNat]; exact Nat.mod_eq_of_lt (by omega)
  show IntKind.u32.wrap ((BitVec.ofInt 32 (a : Int) &&& BitVec.ofInt 32 (b : Int)).toNat : Int) = _
  rw [BitVec.toNat_and, h1, h2, wrap_u32]
  omega
theorem lay_int (W c : Int) (p m : Nat) (hp : p + 8 ≤ 32) (hm : m = (2 ^ (32 - (p + 8)) - 1) * 2 ^ (p + 8) + (2 ^ p - 1)) (hm1 : m < 4294967296) (W0 : 0 ≤ W) (W1 : W ≤ 4294967295) (c0 : 0 ≤ c) (c1 : c ≤ 255) (k8 k : Int) (hk8 : k8 = ((2 ^ (p + 8) : Nat) : Int)) (hk : k = ((2 ^ p : Nat) : Int)) : bits .or .u32 (bits .and .u32 W (m : Int)) (c * k) = W / k8 * k8 + c * k + W % k := by
  obtain ⟨x, rfl⟩ := Int.eq_ofNat_of_zero_le W0
  obtain ⟨d, rfl⟩ := Int.eq_ofNat_of_zero_le c0
  subst hk8 hk
  have hd : d * 2 ^ p < 4294967296 := by
    have e : 2 ^ 32 = 2 ^ (32 - p) * 2 ^ p := by rw [← Nat.pow_add]; congr 1; omega
    have e2 : 256 ≤ 2 ^ (32 - p) := by
      have : 2 ^ 8 ≤ 2 ^ (32 - p) := Nat.pow_le_pow_right (by decide) (by omega)
      exact this
    have e3 : d * 2 ^ p < 2 ^ (32 - p) * 2 ^ p := Nat.mul_lt_mul_of_pos_right (by omega) (Nat.pow_pos (by decide))
    have e4 : (2 : Nat) ^ 32 = 4294967296 := by decide
    omega
  have hand : x &&& m < 4294967296 := Nat.lt_of_le_of_lt Nat.and_le_right hm1
  have e5 : ((d : Nat) : Int) * ((2 ^ p : Nat) : Int) = ((d * 2 ^ p : Nat) : Int) := by simp
  rw [bits_and_u32_nat x m (by omega) hm1, e5, bits_or_u32_nat _ _ hand hd, hm, lay_nat x d p (by omega) (by omega) hp]
  simp only [Int.natCast_add, Int.natCast_mul, Int.natCast_ediv, Int.natCast_emod]
/-- The word that a byte was laid into. -/
theorem wd_upd {M : Nat → Int} {q j : Nat} (hj : j < 4) (c : Int) (i : Nat) : wd (upd M (4 * q + j) c) i = if i = q then (if j = 0 then c else M (4 * q)) + (if j = 1 then c else M (4 * q + 1)) * 256 + (if j = 2 then c else M (4 * q + 2)) * 65536 + (if j = 3 then c else M (4 * q + 3)) * 16777216 else wd M i := by
  by_cases hi : i = q
  · subst hi
    rw [if_pos rfl]
    unfold wd upd
    have : j = 0 ∨ j = 1 ∨ j = 2 ∨ j = 3 := by omega
    rcases this with rfl | rfl | rfl | rfl <;> simp
  · rw [if_neg hi]
    unfold wd
    rw [upd_ne _ _ (by omega), upd_ne _ _ (by omega), upd_ne _ _ (by omega), upd_ne _ _ (by omega)]
theorem lay_end {w : World} {r : Nat} {P : RPh} {L : Lg} (h : RBus w r P L) {q j : Nat} (hq : q < 262144) (hj : j < 4) {a : Nat} (ha : a = 4 * q + j) {c v : Int} (c0 : 0 ≤ c) (c1 : c ≤ 255) (hv : v = wd (upd L.M (4 * q + j) c) q) {X : World} (hX : X = (w.setCell ⟨P.mb, q, none⟩ (.int .u32 v)).drew) : RStp w r P X P { L with M := upd L.M a c } := by
  subst hX ha hv
  have h1 : Tou (fun x => x = P.mb) w ((w.setCell ⟨P.mb, q, none⟩ (.int .u32 (wd (upd L.M (4 * q + j) c) q))).drew) := by
    have e := (Tou.refl (fun x => x = P.mb) w).set ⟨P.mb, q, none⟩ rfl (.int .u32 (wd (upd L.M (4 * q + j) c) q))
    exact ⟨e.os, e.tape, e.output, e.size, e.block⟩
  refine RStp.mem h h1 ?_ (upd_byte h.byte _ c0 c1)
  refine WRow.same (w := w.setCell ⟨P.mb, q, none⟩ (.int .u32 (wd (upd L.M (4 * q + j) c) q))) ((h.mem.set hq _).ext fun i _ => ?_) rfl
  by_cases hi : i = q
  · rw [hi, upd_at]
  · rw [upd_ne _ _ hi, wd_upd hj, if_neg hi]
theorem lay_val0 {M : Nat → Int} {q : Nat} (h : ∀ j, j < 4 → 0 ≤ M (4 * q + j) ∧ M (4 * q + j) ≤ 255) (c : Int) (c0 : 0 ≤ c) (c1 : c ≤ 255) : bits .or .u32 (bits .and .u32 (wd M q) 4294967040) c = wd (upd M (4 * q + 0) c) q := by
  have hb := wd_byte h
  have e := lay_int (wd M q) c 0 4294967040 (by decide) (by decide) (by decide) hb.2.1 hb.2.2 c0 c1 256 1 rfl rfl
  have h0 := h 0 (by omega)
  have h1 := h 1 (by omega)
  have h2 := h 2 (by omega)
  have h3 := h 3 (by omega)
  simp only [Nat.add_zero] at h0
  rw [wd_upd (by omega), if_pos rfl]
  rw [Int.mul_one] at e
  refine e.trans ?_
  simp
  unfold wd
  omega
set_option maxHeartbeats 1000000 in
theorem lay_0 (r : Nat) (P : RPh) (L : Lg) (q : Nat) (c : Int) (w : World) (h : RBus w r P L) (hq : q < 262144) (c0 : 0 ≤ c) (c1 : c ≤ 255) (a : Nat) (ha : a = 4 * q + 0) : Calls Tryz.prog 89 #[.pointer (some ⟨r, 0, none⟩), .int .u32 a, .int .u8 c] w fun e w' => e = .returned (.tuple #[]) ∧ RStp w r P w' P { L with M := upd L.M a c } := by
  have hb := wd_byte (M := L.M) (q := q) (fun j hj => h.byte (4 * q + j) (by omega))
  have HV : Hid _ := lay_val0 (M := L.M) (q := q) (fun j hj => h.byte (4 * q + j) (by omega)) c c0 c1
  have c2 := h.eight.c0
  obtain ⟨cw, cf⟩ := h.mem.at (k := q) (by omega)
  have e1 : (a : Int) / 4 = (q : Int) := by omega
  have e2 : (a : Int) % 4 = 0 := by omega
  have i0 : (0 : Int) ≤ (q : Int) := by omega
  have i1 : (q : Int) < 262144 := by omega
  have b0 := hb.2.1
  have b1 := hb.2.2
  have H : Hid (RBus w r P L) := h
  have HA : Hid (a = 4 * q + 0) := ha
  clear h hb ha
  go_enter Tryz.func89, Tryz.ntmps89
  go_wp2
  go_region
  all_goals
    go_end0
    exact ⟨rfl, lay_end H.out hq (show 0 < 4 by decide) HA.out c0 c1 HV.out rfl⟩
theorem lay_val1 {M : Nat → Int} {q : Nat} (h : ∀ j, j < 4 → 0 ≤ M (4 * q + j) ∧ M (4 * q + j) ≤ 255) (c : Int) (c0 : 0 ≤ c) (c1 : c ≤ 255) : bits .or .u32 (bits .and .u32 (wd M q) 4294902015) (c * 256) = wd (upd M (4 * q + 1) c) q := by
  have hb := wd_byte h
  have e := lay_int (wd M q) c 8 4294902015 (by decide) (by decide) (by decide) hb.2.1 hb.2.2 c0 c1 65536 256 rfl rfl
  have h0 := h 0 (by omega)
  have h1 := h 1 (by omega)
  have h2 := h 2 (by omega)
  have h3 := h 3 (by omega)
  simp only [Nat.add_zero] at h0
  rw [wd_upd (by omega), if_pos rfl]
  skip
  refine e.trans ?_
  simp
  unfold wd
  omega
set_option maxHeartbeats 1000000 in
theorem lay_1 (r : Nat) (P : RPh) (L : Lg) (q : Nat) (c : Int) (w : World) (h : RBus w r P L) (hq : q < 262144) (c0 : 0 ≤ c) (c1 : c ≤ 255) (a : Nat) (ha : a = 4 * q + 1) : Calls Tryz.prog 89 #[.pointer (some ⟨r, 0, none⟩), .int .u32 a, .int .u8 c] w fun e w' => e = .returned (.tuple #[]) ∧ RStp w r P w' P { L with M := upd L.M a c } := by
  have hb := wd_byte (M := L.M) (q := q) (fun j hj => h.byte (4 * q + j) (by omega))
  have HV : Hid _ := lay_val1 (M := L.M) (q := q) (fun j hj => h.byte (4 * q + j) (by omega)) c c0 c1
  have c2 := h.eight.c0
  obtain ⟨cw, cf⟩ := h.mem.at (k := q) (by omega)
  have e1 : (a : Int) / 4 = (q : Int) := by omega
  have e2 : (a : Int) % 4 = 1 := by omega
  have i0 : (0 : Int) ≤ (q : Int) := by omega
  have i1 : (q : Int) < 262144 := by omega
  have b0 := hb.2.1
  have b1 := hb.2.2
  have H : Hid (RBus w r P L) := h
  have HA : Hid (a = 4 * q + 1) := ha
  clear h hb ha
  go_enter Tryz.func89, Tryz.ntmps89
  go_wp2
  go_region
  all_goals
    go_end0
    exact ⟨rfl, lay_end H.out hq (show 1 < 4 by decide) HA.out c0 c1 HV.out rfl⟩
theorem lay_val2 {M : Nat → Int} {q : Nat} (h : ∀ j, j < 4 → 0 ≤ M (4 * q + j) ∧ M (4 * q + j) ≤ 255) (c : Int) (c0 : 0 ≤ c) (c1 : c ≤ 255) : bits .or .u32 (bits .and .u32 (wd M q) 4278255615) (c * 65536) = wd (upd M (4 * q + 2) c) q := by
  have hb := wd_byte h
  have e := lay_int (wd M q) c 16 4278255615 (by decide) (by decide) (by decide) hb.2.1 hb.2.2 c0 c1 16777216 65536 rfl rfl
  have h0 := h 0 (by omega)
  have h1 := h 1 (by omega)
  have h2 := h 2 (by omega)
  have h3 := h 3 (by omega)
  simp only [Nat.add_zero] at h0
  rw [wd_upd (by omega), if_pos rfl]
  skip
  refine e.trans ?_
  simp
  unfold wd
  omega
set_option maxHeartbeats 1000000 in
theorem lay_2 (r : Nat) (P : RPh) (L : Lg) (q : Nat) (c : Int) (w : World) (h : RBus w r P L) (hq : q < 262144) (c0 : 0 ≤ c) (c1 : c ≤ 255) (a : Nat) (ha : a = 4 * q + 2) : Calls Tryz.prog 89 #[.pointer (some ⟨r, 0, none⟩), .int .u32 a, .int .u8 c] w fun e w' => e = .returned (.tuple #[]) ∧ RStp w r P w' P { L with M := upd L.M a c } := by
  have hb := wd_byte (M := L.M) (q := q) (fun j hj => h.byte (4 * q + j) (by omega))
  have HV : Hid _ := lay_val2 (M := L.M) (q := q) (fun j hj => h.byte (4 * q + j) (by omega)) c c0 c1
  have c2 := h.eight.c0
  obtain ⟨cw, cf⟩ := h.mem.at (k := q) (by omega)
  have e1 : (a : Int) / 4 = (q : Int) := by omega
  have e2 : (a : Int) % 4 = 2 := by omega
  have i0 : (0 : Int) ≤ (q : Int) := by omega
  have i1 : (q : Int) < 262144 := by omega
  have b0 := hb.2.1
  have b1 := hb.2.2
  have H : Hid (RBus w r P L) := h
  have HA : Hid (a = 4 * q + 2) := ha
  clear h hb ha
  go_enter Tryz.func89, Tryz.ntmps89
  go_wp2
  go_region
  all_goals
    go_end0
    exact ⟨rfl, lay_end H.out hq (show 2 < 4 by decide) HA.out c0 c1 HV.out rfl⟩
theorem lay_val3 {M : Nat → Int} {q : Nat} (h : ∀ j, j < 4 → 0 ≤ M (4 * q + j) ∧ M (4 * q + j) ≤ 255) (c : Int) (c0 : 0 ≤ c) (c1 : c ≤ 255) : bits .or .u32 (bits .and .u32 (wd M q) 16777215) (c * 16777216) = wd (upd M (4 * q + 3) c) q := by
  have hb := wd_byte h
  have e := lay_int (wd M q) c 24 16777215 (by decide) (by decide) (by decide) hb.2.1 hb.2.2 c0 c1 4294967296 16777216 rfl rfl
  have h0 := h 0 (by omega)
  have h1 := h 1 (by omega)
  have h2 := h 2 (by omega)
  have h3 := h 3 (by omega)
  simp only [Nat.add_zero] at h0
  rw [wd_upd (by omega), if_pos rfl]
  skip
  refine e.trans ?_
  simp
  unfold wd
  omega
set_option maxHeartbeats 1000000 in
theorem lay_3 (r : Nat) (P : RPh) (L : Lg) (q : Nat) (c : Int) (w : World) (h : RBus w r P L) (hq : q < 262144) (c0 : 0 ≤ c) (c1 : c ≤ 255) (a : Nat) (ha : a = 4 * q + 3) : Calls Tryz.prog 89 #[.pointer (some ⟨r, 0, none⟩), .int .u32 a, .int .u8 c] w fun e w' => e = .returned (.tuple #[]) ∧ RStp w r P w' P { L with M := upd L.M a c } := by
  have hb := wd_byte (M := L.M) (q := q) (fun j hj => h.byte (4 * q + j) (by omega))
  have HV : Hid _ := lay_val3 (M := L.M) (q := q) (fun j hj => h.byte (4 * q + j) (by omega)) c c0 c1
  have c2 := h.eight.c0
  obtain ⟨cw, cf⟩ := h.mem.at (k := q) (by omega)
  have e1 : (a : Int) / 4 = (q : Int) := by omega
  have e2 : (a : Int) % 4 = 3 := by omega
  have i0 : (0 : Int) ≤ (q : Int) := by omega
  have i1 : (q : Int) < 262144 := by omega
  have b0 := hb.2.1
  have b1 := hb.2.2
  have H : Hid (RBus w r P L) := h
  have HA : Hid (a = 4 * q + 3) := ha
  clear h hb ha
  go_enter Tryz.func89, Tryz.ntmps89
  go_wp2
  go_region
  all_goals
    go_end0
    exact ⟨rfl, lay_end H.out hq (show 3 < 4 by decide) HA.out c0 c1 HV.out rfl⟩
theorem lay_any (r : Nat) (P : RPh) (L : Lg) (a : Nat) (c : Int) (w : World) (h : RBus w r P L) (ha : a < 1048576) (c0 : 0 ≤ c) (c1 : c ≤ 255) : Calls Tryz.prog 89 #[.pointer (some ⟨r, 0, none⟩), .int .u32 a, .int .u8 c] w fun e w' => e = .returned (.tuple #[]) ∧ RStp w r P w' P { L with M := upd L.M a c } := by
  have hj : a = 4 * (a / 4) + 0 ∨ a = 4 * (a / 4) + 1 ∨ a = 4 * (a / 4) + 2 ∨ a = 4 * (a / 4) + 3 := by omega
  rcases hj with hj | hj | hj | hj
  · exact lay_0 r P L (a / 4) c w h (by omega) c0 c1 a hj
  · exact lay_1 r P L (a / 4) c w h (by omega) c0 c1 a hj
  · exact lay_2 r P L (a / 4) c w h (by omega) c0 c1 a hj
  · exact lay_3 r P L (a / 4) c w h (by omega) c0 c1 a hj
end Go.Proofs.YteegkhnikcioiaaGreatDoor

namespace Go.Proofs.YteegkhnikcioiaaGreatDoor
open Go.ChangeShapes Go.WideShapes Go.ChangeAt Go.RowKit
attribute [local go_sem ↓] loadSec_seal storeSec_seal eqlSec_seal zeroSec
attribute [local go_sem] loadSec_run storeSec_run rowAt_at rowAt_old rowAt_drew rowAt_drewN roomSec_new roomAt_old roomAt_drew roomAt_drewN putSec_new putRow_past rowSec_put size_put putRow_drew putRow_drewN alloc_drewN setCell_drewN sec_size

set_option linter.unusedVariables false

theorem rep_drew {w : World} {r : Nat} {R : Rk} (h : RepR w r R) (n : Nat) : RepR (w.drewN n) r R := h.below (drewNB w n)
theorem moved_bad (L : Lg) (c : Int) (h : (¬ c = 1 ∧ ¬ c = 2) ∨ (L.n : Int) ≤ L.sc ∨ ¬ L.ad % 4 = 0 ∨ 1047552 < L.ad) : L.moved c = (false, L) := by
  unfold Lg.moved
  by_cases hp : placeB L = false
  · rw [if_pos hp]
  · rw [if_neg hp]
    have hp' : L.ad % 4 = 0 ∧ L.ad ≤ 1047552 := by simpa [placeB] using hp
    by_cases c1 : c = 1
    · rw [if_pos c1, if_neg (by omega)]
    · rw [if_neg c1]
      by_cases c2 : c = 2
      · rw [if_pos c2, if_neg (by omega)]
      · rw [if_neg c2]
set_option maxHeartbeats 1000000 in
theorem done_other (r : Nat) (P : RPh) (L : Lg) (c : Int) (w : World) (h : RBus w r P L) (h1 : ¬ c = 1) (h2 : ¬ c = 2) : Calls Tryz.prog 114 #[.pointer (some ⟨r, 0, none⟩), .int .u32 c] w fun e w' => e = .returned (.bool false) ∧ Below w.heap.size w w' := by
  have q1 : (c != 1) = true := by simpa using h1
  have q2 : (c != 2) = true := by simpa using h2
  clear h
  go_enter Tryz.func114, Tryz.ntmps114
  go_wp2
  go_quiet (fail)
  go_wp2
  go_ret
  exact ⟨rfl, drewNB _ _⟩
set_option maxHeartbeats 1000000 in
theorem done_sector (r : Nat) (P : RPh) (L : Lg) (c : Int) (w : World) (h : RBus w r P L) (hc : c = 1 ∨ c = 2) (hs : (L.n : Int) ≤ L.sc) : Calls Tryz.prog 114 #[.pointer (some ⟨r, 0, none⟩), .int .u32 c] w fun e w' => e = .returned (.bool false) ∧ Below w.heap.size w w' := by
  have c1 := h.eight.c1
  have c5 := h.eight.c5
  have H : Hid (RBus w r P L) := h
  have n1 := h.dsk.n1
  rw [← h.dn] at hs
  clear h
  rcases hc with rfl | rfl
  all_goals
    go_enter Tryz.func114, Tryz.ntmps114
    go_wp2
    go_quiet ((go_at_call 113; exact Calls.quiet_of_same (rsecs_any P.rd P.R _ (rep_drew H.out.dsk _))))
    go_wp2
    go_ret
    exact ⟨rfl, drewNB _ _⟩
set_option maxHeartbeats 1000000 in
theorem done_place (r : Nat) (P : RPh) (L : Lg) (c : Int) (w : World) (h : RBus w r P L) (hc : c = 1 ∨ c = 2) (hs : L.sc < (L.n : Int)) (hp : ¬ L.ad % 4 = 0 ∨ (L.ad % 4 = 0 ∧ 1047552 < L.ad)) : Calls Tryz.prog 114 #[.pointer (some ⟨r, 0, none⟩), .int .u32 c] w fun e w' => e = .returned (.bool false) ∧ Below w.heap.size w w' := by
  have c1 := h.eight.c1
  have c5 := h.eight.c5
  have c6 := h.eight.c6
  have a0 := h.ad.1
  have H : Hid (RBus w r P L) := h
  have n1 := h.dsk.n1
  rw [← h.dn] at hs
  have hs2 : decide ((P.R.n : Int) ≤ L.sc) = false := by simp; omega
  clear h
  rcases hp with hp | ⟨hp, hq⟩
  · have hp2 : (L.ad % 4 != 0) = true := by simpa using hp
    rcases hc with rfl | rfl
    all_goals
      go_enter Tryz.func114, Tryz.ntmps114
      go_wp2
      go_quiet ((go_at_call 113; exact Calls.quiet_of_same (rsecs_any P.rd P.R _ (rep_drew H.out.dsk _))))
      go_wp2
      go_ret
      exact ⟨rfl, drewNB _ _⟩
  · rcases hc with rfl | rfl
    all_goals
      go_enter Tryz.func114, Tryz.ntmps114
      go_wp2
      go_quiet ((go_at_call 113; exact Calls.quiet_of_same (rsecs_any P.rd P.R _ (rep_drew H.out.dsk _))))
      go_wp2
      go_ret
      exact ⟨rfl, drewNB _ _⟩
end Go.Proofs.YteegkhnikcioiaaGreatDoor
