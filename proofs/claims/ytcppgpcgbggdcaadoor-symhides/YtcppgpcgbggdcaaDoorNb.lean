/-
  Layer 7's numbers and texts as bytes: what PutUint and PutText, the program's and the document's, make behind any row of bytes.
-/
import Derived.Test.YtcppgpcgbggdcaaDoorBytes
import Derived.Lib.AppendStr
import Derived.Laws.BytesArg
namespace Go.Proofs.YtcppgpcgbggdcaaDoor
set_option linter.unusedVariables false
set_option linter.unusedSimpArgs false
open Go.ChangeShapes Go.WideShapes Go.ChangeAt Go.RowKit

def u8s (l : List Int) : List Value := l.map fun x => .int .u8 x
theorem u8s_len (l : List Int) : (u8s l).length = l.length := by simp [u8s]
theorem u8s_app (a b : List Int) : u8s (a ++ b) = u8s a ++ u8s b := by simp [u8s]
/-- A number's bytes, at most f + 1 of them. -/
def numL : Nat → Int → List Int
  | 0, n => [n]
  | f + 1, n => if n < 128 then [n] else (n % 128 + 128) :: numL f (n / 128)
theorem numL_small (f : Nat) (n : Int) (h : n < 128) : numL f n = [n] := by
  cases f with
  | zero => rfl
  | succ f => simp [numL, h]
theorem numL_big (f : Nat) (n : Int) (h : ¬ n < 128) : numL (f + 1) n = (n % 128 + 128) :: numL f (n / 128) := by simp [numL, h]
theorem numL_len : ∀ (f : Nat) (n : Int), (numL f n).length ≤ f + 1
  | 0, _ => by simp [numL]
  | f + 1, n => by
    unfold numL
    split
    · simp
    · have := numL_len f (n / 128); simp; omega
/-- A row of bytes that a call itself has made, and what is in it. -/
def Ow (w : World) (B : Nat) (v : Value) (l : List Int) : Prop := w.ownsRow B 5 1 v l.length (u8s l)
theorem cell_one (w : World) (v : Value) (t : TypeId) : ∀ j u, [v][j]? = some u → (w.alloc (.cells #[v] t)).cell? ((⟨w.heap.size, 0, none⟩ : Addr).add j) = some u := by
  intro j u hj
  match j, hj with
  | 0, hj => simp at hj; subst hj; simp [Addr.add]
  | j + 1, hj => simp at hj
theorem bits_and_u32_nat (a b : Nat) (ha : a < 4294967296) (hb : b < 4294967296) : bits .and .u32 (a : Int) (b : Int) = ((a &&& b : Nat) : Int) := by
  have hx : a &&& b < 2 ^ 32 := Nat.and_lt_two_pow _ (by omega)
  have h1 : (BitVec.ofInt 32 (a : Int)).toNat = a := by
    rw [BitVec.ofInt_natCast, BitVec.toNat_ofNat]; exact Nat.mod_eq_of_lt (by omega)
  have h2 : (BitVec.ofInt 32 (b : Int)).toNat = b := by
    rw [BitVec.ofInt_natCast, BitVec.toNat_ofNat]; exact Nat.mod_eq_of_lt (by omega)
  show IntKind.u32.wrap ((BitVec.ofInt 32 (a : Int) &&& BitVec.ofInt 32 (b : Int)).toNat : Int) = _
  rw [BitVec.toNat_and, h1, h2, wrap_u32]
  omega
theorem or128 (a : Nat) (h : a < 128) : a ||| 128 = a + 128 := by
  have h2 : (2 ^ 7 * 1 + a : Nat) = 2 ^ 7 * 1 ||| a := Nat.two_pow_add_eq_or_of_lt (i := 7) (b := a) (by simpa using h) 1
  have h3 : 128 + a = 128 ||| a := h2
  rw [Nat.or_comm, ← h3, Nat.add_comm]
theorem group_bits (n : Int) (n0 : 0 ≤ n) (n1 : n ≤ 4294967295) : bits .or .u32 (bits .and .u32 n 127) 128 = n % 128 + 128 := by
  obtain ⟨m, rfl⟩ := Int.eq_ofNat_of_zero_le n0
  rw [show (127 : Int) = ((127 : Nat) : Int) from rfl, bits_and_u32_nat m 127 (by omega) (by omega), show (128 : Int) = ((128 : Nat) : Int) from rfl, Nat.and_two_pow_sub_one_eq_mod m 7,
    bits_or_u32_nat _ _ (by omega) (by omega), or128 _ (by omega)]
  omega

set_option maxHeartbeats 1000000 in
theorem addUint_any (B : Nat) (v : Value) (l : List Int) (n : Int) (w : World) (h : w.ownsRow B 5 1 v l.length (u8s l)) (hB : B ≤ w.heap.size) (n0 : 0 ≤ n) (n1 : n ≤ 4294967295) (hm : l.length + 5 ≤ 140737488355328) :
    Calls Tryd.prog 98 #[v, .int .u32 n] w fun e w' => ∃ v', e = .returned v' ∧ Ow w' B v' (l ++ numL 4 n) ∧ Below B w w' := by
  obtain ⟨i0, hi, hz0, hz1, hz2⟩ := info_parts info5
  have HO : Hid (w.ownsRow B 5 1 v l.length (u8s l)) := h
  clear h
  go_enter Tryd.func98, Tryd.ntmps98
  go_wp2
  go_loopw [0, 1] (fun s x wr => ∃ (f : Nat) (m : Int) (l' : List Int), x = .int .u32 m ∧ 0 ≤ m ∧ m ≤ 4294967295 ∧ m < 128 ^ (f + 1) ∧ l' ++ numL f m = l ++ numL 4 n ∧ l'.length + f = l.length + 4 ∧ wr.ownsRow B 5 1 s l'.length (u8s l') ∧ Below B w wr) (fun _ x _ => (intOf x).toNat)
  case atStart => exact ⟨4, n, l, rfl, n0, n1, by omega, rfl, rfl, HO.out, Below.refl _ _⟩
  case round =>
    obtain ⟨f, m, l', rfl, m0, m1, hf, hl, hlen, hown, hbel⟩ := hrel
    have hsz := hbel.size
    have HL : Hid (l' ++ numL f m = l ++ numL 4 n) := hl
    have HF : Hid (m < 128 ^ (f + 1)) := hf
    clear hl hf
    by_cases hlt : 127 < m
    · have hgb := group_bits m m0 m1
      go_wp2_with (first
        | (at_builtin; refine wpList_append_own _ rfl _ _ 30 rfl B 5 i0 (.int .u8 0) 1 1 Tryd.underlying30 hi hz0 hz1 hz2 rfl (by decide) _ _ _ rfl (hown.alloc _) ⟨wr.heap.size, 0, none⟩ 1 1 [.int .u8 (m % 128 + 128)] rfl rfl ?c1 ?c2 ?c3 ?c4 ?c5 ?_)
        | go_in)
      case c1 => exact cell_one _ _ _
      case c2 => intro u hu; simp at hu; subst hu; rfl
      case c3 => unfold maxLen; omega
      case c4 => omega
      case c5 => simp; omega
      · intro s' w1 hown' hgrow _
        have hbel' : Below B w w1 := (hbel.alloc (by omega) _).grown hgrow (by simp; omega) (fun g hg => (hown.lt g hg).1)
        obtain ⟨f', rfl⟩ : ∃ f', f = f' + 1 := by
          cases f with
          | zero => have := HF.out; omega
          | succ f' => exact ⟨f', rfl⟩
        have e1 : (l' ++ [m % 128 + 128]).length = l'.length + 1 := by simp
        have hown2 : w1.ownsRow B 5 1 s' (l' ++ [m % 128 + 128]).length (u8s (l' ++ [m % 128 + 128])) := by rw [e1, u8s_app]; exact hown'
        have hl2 : (l' ++ [m % 128 + 128]) ++ numL f' (m / 128) = l ++ numL 4 n := by rw [← HL.out, numL_big f' m (by omega)]; simp
        have hf2 : m / 128 < 128 ^ (f' + 1) := by have := HF.out; rw [Int.pow_succ] at this; omega
        have HN : Hid (w1.ownsRow B 5 1 s' (l' ++ [m % 128 + 128]).length (u8s (l' ++ [m % 128 + 128])) ∧ (l' ++ [m % 128 + 128]) ++ numL f' (m / 128) = l ++ numL 4 n ∧ m / 128 < 128 ^ (f' + 1)) := ⟨hown2, hl2, hf2⟩
        clear hown' hgrow hown hown2 hl2 hf2
        go_wp2
        go_roundw
        case rel => exact ⟨f', m / 128, l' ++ [m % 128 + 128], by go_num, by omega, by omega, HN.out.2.2, HN.out.2.1, by rw [e1]; omega, HN.out.1, hbel'⟩
        case measure => simp [intOf]; omega
    · go_wp2_with (first
        | (at_builtin; refine wpList_append_own _ rfl _ _ 30 rfl B 5 i0 (.int .u8 0) 1 1 Tryd.underlying30 hi hz0 hz1 hz2 rfl (by decide) _ _ _ rfl (hown.alloc _) ⟨wr.heap.size, 0, none⟩ 1 1 [.int .u8 m] rfl rfl (cell_one _ _ _) (by intro u hu; simp at hu; subst hu; rfl) (by unfold maxLen; omega) (by omega) (by simp; omega) ?_)
        | go_in)
      · intro s' w1 hown' hgrow _
        have hbel' : Below B w w1 := (hbel.alloc (by omega) _).grown hgrow (by simp; omega) (fun g hg => (hown.lt g hg).1)
        have e1 : (l' ++ [m]).length = l'.length + 1 := by simp
        have hown2 : w1.ownsRow B 5 1 s' (l ++ numL 4 n).length (u8s (l ++ numL 4 n)) := by rw [← HL.out, numL_small f m (by omega), e1, u8s_app]; exact hown'
        clear hown' hgrow hown
        go_wp2
        go_ret
        exact ⟨_, rfl, hown2, hbel'⟩

def bl (f : Nat → Int) (len : Nat) : List Int := (List.range len).map f
theorem bl_len (f : Nat → Int) (len : Nat) : (bl f len).length = len := by simp [bl]
theorem bl_row (f : Nat → Int) (len : Nat) : u8s (bl f len) = rowOf f len := by simp [u8s, bl, rowOf]
/-- A slice of bytes that was handed in. -/
structure Src (w : World) (a : Option Addr) (len cap : Nat) (f : Nat → Int) : Prop where
  rd : RdB w a len f
  nil : a = none → len = 0 ∧ cap = 0
  fit : len ≤ 140737488351232
theorem Src.below {w w' : World} {a : Option Addr} {len cap : Nat} {f : Nat → Int} (h : Src w a len cap f) (hb : Below w.heap.size w w') : Src w' a len cap f := ⟨h.rd.below hb, h.nil, h.fit⟩
theorem src_cells {w : World} {ad : Addr} {len cap : Nat} {f : Nat → Int} (h : Src w (some ad) len cap f) : ∀ j u, (u8s (bl f len))[j]? = some u → w.cell? (ad.add j) = some u := by
  rw [bl_row]
  by_cases h0 : 0 < len
  · obtain ⟨ad', e, hc⟩ := copy_src h.rd (by simpa [rowOf] using h0)
    cases e
    exact hc
  · intro j u hj
    obtain rfl : len = 0 := by omega
    simp [rowOf] at hj
theorem u8s_one (l : List Int) : ∀ u ∈ u8s l, u.oneCell' = true := by
  intro u hu
  simp [u8s] at hu
  obtain ⟨i, _, rfl⟩ := hu
  rfl
set_option maxHeartbeats 1000000 in
theorem anew_any (a : Option Addr) (len cap : Nat) (f : Nat → Int) (w : World) (h : Src w a len cap f) :
    Calls Tryd.prog 96 #[.slice a len cap] w fun e w' => ∃ v', e = .returned v' ∧ Ow w' w.heap.size v' (bl f len) ∧ Below w.heap.size w w' := by
  obtain ⟨i0, hi, hz0, hz1, hz2⟩ := info_parts info5
  have hfit := h.fit
  have HS : Hid (Src w a len cap f) := h
  clear h
  cases a with
  | none =>
    obtain ⟨rfl, rfl⟩ := HS.out.nil rfl
    go_enter Tryd.func96, Tryd.ntmps96
    go_wp2
    go_ret
    exact ⟨_, rfl, World.ownsRow_nil _ _ _ _, Below.refl _ _⟩
  | some ad =>
    go_enter Tryd.func96, Tryd.ntmps96
    go_wp2_with (first
      | (at_builtin; refine wpList_append_own _ rfl _ _ 30 rfl w.heap.size 5 i0 (.int .u8 0) 1 1 Tryd.underlying30 hi hz0 hz1 hz2 rfl (by decide) _ _ _ rfl (World.ownsRow_nil _ _ _ _) ad len cap (u8s (bl f len)) rfl (by simp [u8s_len, bl_len]) (src_cells HS.out) (u8s_one _) (by unfold maxLen; omega) (by omega) (Nat.le_refl _) ?_; intro s' w1 hown' hgrow _)
      | go_in)
    go_ret
    refine ⟨_, rfl, ?_, (Below.refl _ _).grown hgrow (Nat.le_refl _) (fun g hg => by cases hg)⟩
    unfold Ow
    rw [bl_len]
    simpa using hown'
theorem strCells_u8 (s : ByteArray) : Lib.strCells s = u8s (s.data.toList.map fun b => (b.toNat : Int)) := by unfold Lib.strCells u8s; rw [List.map_map]; rfl
def sL (s : ByteArray) : List Int := s.data.toList.map fun b => (b.toNat : Int)
theorem sL_len (s : ByteArray) : (sL s).length = s.size := by unfold sL; rw [List.length_map, Array.length_toList]; rfl
def textL (s : ByteArray) : List Int := numL 4 ((s.size : Int) % 4294967296) ++ sL s
set_option maxHeartbeats 1000000 in
theorem addText_any (B : Nat) (v : Value) (l : List Int) (s : ByteArray) (w : World) (h : w.ownsRow B 5 1 v l.length (u8s l)) (hB : B ≤ w.heap.size) (hm : l.length + 5 + s.size ≤ 140737488355328) :
    Calls Tryd.prog 95 #[v, .string s] w fun e w' => ∃ v', e = .returned v' ∧ Ow w' B v' (l ++ textL s) ∧ Below B w w' := by
  obtain ⟨i0, hi, hz0, hz1, hz2⟩ := info_parts info5
  have HO : Hid (w.ownsRow B 5 1 v l.length (u8s l)) := h
  have hn := numL_len 4 ((s.size : Int) % 4294967296)
  clear h
  go_enter Tryd.func95, Tryd.ntmps95
  go_wp2_with (first
    | (go_at_call 98; refine (addUint_any B v l ((s.size : Int) % 4294967296) _ HO.out hB (by omega) (by omega) (by omega)).mono ?_; rintro e w1 ⟨v1, rfl, hown1, hb1⟩)
    | (at_builtin; refine Lib.wpList_append_own_string _ rfl _ _ 30 9 rfl B 5 i0 Tryd.underlying30 Tryd.underlying9 hi hz0 hz1 hz2 _ _ _ rfl hown1 s rfl (by simp; unfold maxLen; omega) (by simp; omega) (by have := hb1.size; omega) ?_; intro v2 w2 hown2 hgrow2 hn2)
    | go_in)
  go_ret
  have hbel : Below B w w2 := hb1.grown hgrow2 (by have := hb1.size; omega) (fun g hg => (hown1.lt g hg).1)
  refine ⟨_, rfl, ?_, hbel⟩
  rw [strCells_u8, ← u8s_app] at hown2
  unfold Ow
  rw [textL, ← List.append_assoc, List.length_append (bs := sL s), sL_len]
  exact hown2
theorem putUint_any (a : Option Addr) (len cap : Nat) (f : Nat → Int) (n : Int) (w : World) (h : Src w a len cap f) (n0 : 0 ≤ n) (n1 : n ≤ 4294967295) :
    Calls Tryd.prog 84 #[.slice a len cap, .int .u32 n] w fun e w' => ∃ v', e = .returned v' ∧ Ow w' w.heap.size v' (bl f len ++ numL 4 n) ∧ Below w.heap.size w w' := by
  have hfit := h.fit
  have hl := bl_len f len
  have HS : Hid (Src w a len cap f) := h
  clear h
  go_enter Tryd.func84, Tryd.ntmps84
  go_wp2_with (first
    | (go_at_call 96; refine (anew_any a len cap f _ HS.out).mono ?_; rintro e w1 ⟨v1, rfl, hown1, hb1⟩)
    | (go_at_call 98; refine (addUint_any w.heap.size v1 (bl f len) n _ hown1 hb1.size n0 n1 (by omega)).mono ?_; rintro e w2 ⟨v2, rfl, hown2, hb2⟩)
    | go_in)
  go_ret
  exact ⟨_, rfl, hown2, hb1.trans hb2⟩
theorem putText_any (a : Option Addr) (len cap : Nat) (f : Nat → Int) (s : ByteArray) (w : World) (h : Src w a len cap f) (hs : len + s.size + 5 ≤ 140737488355328) :
    Calls Tryd.prog 80 #[.slice a len cap, .string s] w fun e w' => ∃ v', e = .returned v' ∧ Ow w' w.heap.size v' (bl f len ++ textL s) ∧ Below w.heap.size w w' := by
  have hfit := h.fit
  have hl := bl_len f len
  have HS : Hid (Src w a len cap f) := h
  clear h
  go_enter Tryd.func80, Tryd.ntmps80
  go_wp2_with (first
    | (go_at_call 96; refine (anew_any a len cap f _ HS.out).mono ?_; rintro e w1 ⟨v1, rfl, hown1, hb1⟩)
    | (go_at_call 95; refine (addText_any w.heap.size v1 (bl f len) s _ hown1 hb1.size (by omega)).mono ?_; rintro e w2 ⟨v2, rfl, hown2, hb2⟩)
    | go_in)
  go_ret
  exact ⟨_, rfl, hown2, hb1.trans hb2⟩

/-! The document's. -/
set_option maxHeartbeats 1000000 in
theorem rputUint_any (a : Option Addr) (len cap : Nat) (f : Nat → Int) (n : Int) (w : World) (h : Src w a len cap f) (n0 : 0 ≤ n) (n1 : n ≤ 4294967295) :
    Calls Tryd.prog 65 #[.slice a len cap, .int .u32 n] w fun e w' => ∃ v', e = .returned v' ∧ Ow w' w.heap.size v' (bl f len ++ numL 4 n) ∧ Below w.heap.size w w' := by
  obtain ⟨i0, hi, hz0, hz1, hz2⟩ := info_parts info5
  have hfit := h.fit
  have hl := bl_len f len
  have HS : Hid (Src w a len cap f) := h
  clear h
  obtain ⟨B, hB⟩ : ∃ B, B = w.heap.size := ⟨_, rfl⟩
  rw [← hB]
  have HB : Hid (B = w.heap.size) := hB
  clear hB
  have hBw : B ≤ w.heap.size := by rw [HB.out]; exact Nat.le_refl _
  cases a with
  | none =>
    obtain ⟨rfl, rfl⟩ := HS.out.nil rfl
    have O1 : Hid (w.ownsRow B 5 1 (.slice none 0 0) (bl f 0).length (u8s (bl f 0)) ∧ Below B w w) := ⟨World.ownsRow_nil _ _ _ _, Below.refl _ _⟩
    generalize bl f 0 = LL at O1 hl
    go_enter Tryd.func65, Tryd.ntmps65
    go_wp2
    go_loopw [5, 1] (fun s x wr => ∃ (k : Nat) (m : Int) (l' : List Int), x = .int .u32 m ∧ 0 ≤ m ∧ m ≤ 4294967295 ∧ m < 128 ^ (k + 1) ∧ l' ++ numL k m = LL ++ numL 4 n ∧ l'.length + k = LL.length + 4 ∧ wr.ownsRow B 5 1 s l'.length (u8s l') ∧ Below B w wr) (fun _ x _ => (intOf x).toNat)
    case atStart => exact ⟨4, n, LL, rfl, n0, n1, by omega, rfl, rfl, O1.out.1, O1.out.2⟩
    case round =>
      obtain ⟨k, m, l', rfl, m0, m1, hf, hl, hlen, hown, hbel⟩ := hrel
      have hsz := hbel.size
      have HL : Hid (l' ++ numL k m = LL ++ numL 4 n) := hl
      have HF : Hid (m < 128 ^ (k + 1)) := hf
      clear hl hf
      by_cases hlt : 128 ≤ m
      · have hsmall : (m % 128 + 128) % 256 = m % 128 + 128 := by omega
        go_wp2_with (first
          | (at_builtin; refine wpList_append_own _ rfl _ _ 30 rfl B 5 i0 (.int .u8 0) 1 1 Tryd.underlying30 hi hz0 hz1 hz2 rfl (by decide) _ _ _ rfl (hown.alloc _) ⟨wr.heap.size, 0, none⟩ 1 1 [.int .u8 (m % 128 + 128)] rfl rfl (cell_one _ _ _) (by intro u hu; simp at hu; subst hu; rfl) (by unfold maxLen; omega) (by omega) (by simp; omega) ?_; intro s' w1 hown' hgrow _)
          | go_in)
        have hbel' : Below B w w1 := (hbel.alloc (by omega) _).grown hgrow (by simp; omega) (fun g hg => (hown.lt g hg).1)
        obtain ⟨k', rfl⟩ : ∃ k', k = k' + 1 := by
          cases k with
          | zero => have := HF.out; omega
          | succ k' => exact ⟨k', rfl⟩
        have e1 : (l' ++ [m % 128 + 128]).length = l'.length + 1 := by simp
        have hown2 : w1.ownsRow B 5 1 s' (l' ++ [m % 128 + 128]).length (u8s (l' ++ [m % 128 + 128])) := by rw [e1, u8s_app]; exact hown'
        have hl2 : (l' ++ [m % 128 + 128]) ++ numL k' (m / 128) = LL ++ numL 4 n := by rw [← HL.out, numL_big k' m (by omega)]; simp
        have hf2 : m / 128 < 128 ^ (k' + 1) := by have := HF.out; rw [Int.pow_succ] at this; omega
        have HN : Hid (w1.ownsRow B 5 1 s' (l' ++ [m % 128 + 128]).length (u8s (l' ++ [m % 128 + 128])) ∧ (l' ++ [m % 128 + 128]) ++ numL k' (m / 128) = LL ++ numL 4 n ∧ m / 128 < 128 ^ (k' + 1)) := ⟨hown2, hl2, hf2⟩
        clear hown' hgrow hown hown2 hl2 hf2
        go_wp2
        go_roundw
        case rel => exact ⟨k', m / 128, l' ++ [m % 128 + 128], by go_num, by omega, by omega, HN.out.2.2, HN.out.2.1, by rw [e1]; omega, HN.out.1, hbel'⟩
        case measure => simp [intOf]; omega
      · go_wp2_with (first
          | (at_builtin; refine wpList_append_own _ rfl _ _ 30 rfl B 5 i0 (.int .u8 0) 1 1 Tryd.underlying30 hi hz0 hz1 hz2 rfl (by decide) _ _ _ rfl (hown.alloc _) ⟨wr.heap.size, 0, none⟩ 1 1 [.int .u8 m] rfl rfl (cell_one _ _ _) (by intro u hu; simp at hu; subst hu; rfl) (by unfold maxLen; omega) (by omega) (by simp; omega) ?_; intro s' w1 hown' hgrow _)
          | go_in)
        have hbel' : Below B w w1 := (hbel.alloc (by omega) _).grown hgrow (by simp; omega) (fun g hg => (hown.lt g hg).1)
        have e1 : (l' ++ [m]).length = l'.length + 1 := by simp
        have hown2 : w1.ownsRow B 5 1 s' (LL ++ numL 4 n).length (u8s (LL ++ numL 4 n)) := by rw [← HL.out, numL_small k m (by omega), e1, u8s_app]; exact hown'
        clear hown' hgrow hown
        go_wp2
        go_ret
        exact ⟨_, rfl, hown2, hbel'⟩
  | some ad =>
    have hcells := src_cells HS.out
    have hone := u8s_one (bl f len)
    have hll := u8s_len (bl f len)
    generalize bl f len = LL at hcells hone hl hll
    have HC : Hid (∀ j u, (u8s LL)[j]? = some u → w.cell? (ad.add j) = some u) := hcells
    have HO : Hid (∀ u ∈ u8s LL, u.oneCell' = true) := hone
    clear hcells hone
    go_enter Tryd.func65, Tryd.ntmps65
    go_wp2_with (first
      | (at_builtin; have hx := HC; clear hx; refine wpList_append_own _ rfl _ _ 30 rfl B 5 i0 (.int .u8 0) 1 1 Tryd.underlying30 hi hz0 hz1 hz2 rfl (by decide) _ _ _ rfl (World.ownsRow_nil _ _ _ _) ad len cap (u8s LL) rfl (by omega) HC.out HO.out (by unfold maxLen; omega) (by omega) hBw ?_; intro s1 w1 hown1 hgrow1 _; have O1 : Hid (w1.ownsRow B 5 1 s1 LL.length (u8s LL) ∧ Below B w w1) := ⟨(by rw [hl]; simpa using hown1), (Below.refl _ _).grown hgrow1 hBw (fun g hg => by cases hg)⟩; clear HC)
      | go_in)
    clear hown1 hgrow1
    go_loopw [5, 1] (fun s x wr => ∃ (k : Nat) (m : Int) (l' : List Int), x = .int .u32 m ∧ 0 ≤ m ∧ m ≤ 4294967295 ∧ m < 128 ^ (k + 1) ∧ l' ++ numL k m = LL ++ numL 4 n ∧ l'.length + k = LL.length + 4 ∧ wr.ownsRow B 5 1 s l'.length (u8s l') ∧ Below B w wr) (fun _ x _ => (intOf x).toNat)
    case atStart => exact ⟨4, n, LL, rfl, n0, n1, by omega, rfl, rfl, O1.out.1, O1.out.2⟩
    case round =>
      obtain ⟨k, m, l', rfl, m0, m1, hf, hl, hlen, hown, hbel⟩ := hrel
      have hsz := hbel.size
      have HL : Hid (l' ++ numL k m = LL ++ numL 4 n) := hl
      have HF : Hid (m < 128 ^ (k + 1)) := hf
      clear hl hf
      by_cases hlt : 128 ≤ m
      · have hsmall : (m % 128 + 128) % 256 = m % 128 + 128 := by omega
        go_wp2_with (first
          | (at_builtin; refine wpList_append_own _ rfl _ _ 30 rfl B 5 i0 (.int .u8 0) 1 1 Tryd.underlying30 hi hz0 hz1 hz2 rfl (by decide) _ _ _ rfl (hown.alloc _) ⟨wr.heap.size, 0, none⟩ 1 1 [.int .u8 (m % 128 + 128)] rfl rfl (cell_one _ _ _) (by intro u hu; simp at hu; subst hu; rfl) (by unfold maxLen; omega) (by omega) (by simp; omega) ?_; intro s' w1 hown' hgrow _)
          | go_in)
        have hbel' : Below B w w1 := (hbel.alloc (by omega) _).grown hgrow (by simp; omega) (fun g hg => (hown.lt g hg).1)
        obtain ⟨k', rfl⟩ : ∃ k', k = k' + 1 := by
          cases k with
          | zero => have := HF.out; omega
          | succ k' => exact ⟨k', rfl⟩
        have e1 : (l' ++ [m % 128 + 128]).length = l'.length + 1 := by simp
        have hown2 : w1.ownsRow B 5 1 s' (l' ++ [m % 128 + 128]).length (u8s (l' ++ [m % 128 + 128])) := by rw [e1, u8s_app]; exact hown'
        have hl2 : (l' ++ [m % 128 + 128]) ++ numL k' (m / 128) = LL ++ numL 4 n := by rw [← HL.out, numL_big k' m (by omega)]; simp
        have hf2 : m / 128 < 128 ^ (k' + 1) := by have := HF.out; rw [Int.pow_succ] at this; omega
        have HN : Hid (w1.ownsRow B 5 1 s' (l' ++ [m % 128 + 128]).length (u8s (l' ++ [m % 128 + 128])) ∧ (l' ++ [m % 128 + 128]) ++ numL k' (m / 128) = LL ++ numL 4 n ∧ m / 128 < 128 ^ (k' + 1)) := ⟨hown2, hl2, hf2⟩
        clear hown' hgrow hown hown2 hl2 hf2
        go_wp2
        go_roundw
        case rel => exact ⟨k', m / 128, l' ++ [m % 128 + 128], by go_num, by omega, by omega, HN.out.2.2, HN.out.2.1, by rw [e1]; omega, HN.out.1, hbel'⟩
        case measure => simp [intOf]; omega
      · go_wp2_with (first
          | (at_builtin; refine wpList_append_own _ rfl _ _ 30 rfl B 5 i0 (.int .u8 0) 1 1 Tryd.underlying30 hi hz0 hz1 hz2 rfl (by decide) _ _ _ rfl (hown.alloc _) ⟨wr.heap.size, 0, none⟩ 1 1 [.int .u8 m] rfl rfl (cell_one _ _ _) (by intro u hu; simp at hu; subst hu; rfl) (by unfold maxLen; omega) (by omega) (by simp; omega) ?_; intro s' w1 hown' hgrow _)
          | go_in)
        have hbel' : Below B w w1 := (hbel.alloc (by omega) _).grown hgrow (by simp; omega) (fun g hg => (hown.lt g hg).1)
        have e1 : (l' ++ [m]).length = l'.length + 1 := by simp
        have hown2 : w1.ownsRow B 5 1 s' (LL ++ numL 4 n).length (u8s (LL ++ numL 4 n)) := by rw [← HL.out, numL_small k m (by omega), e1, u8s_app]; exact hown'
        clear hown' hgrow hown
        go_wp2
        go_ret
        exact ⟨_, rfl, hown2, hbel'⟩
set_option maxHeartbeats 1000000 in
theorem rputText_any (a : Option Addr) (len cap : Nat) (f : Nat → Int) (s : ByteArray) (w : World) (h : Src w a len cap f) (hs : len + s.size + 5 ≤ 140737488355328) :
    Calls Tryd.prog 30 #[.slice a len cap, .string s] w fun e w' => ∃ v', e = .returned v' ∧ Ow w' w.heap.size v' (bl f len ++ textL s) ∧ Below w.heap.size w w' := by
  obtain ⟨i0, hi, hz0, hz1, hz2⟩ := info_parts info5
  have hfit := h.fit
  have hl := bl_len f len
  have HS : Hid (Src w a len cap f) := h
  have hn := numL_len 4 ((s.size : Int) % 4294967296)
  clear h
  go_enter Tryd.func30, Tryd.ntmps30
  go_wp2_with (first
    | (go_at_call 65; refine (rputUint_any a len cap f ((s.size : Int) % 4294967296) _ HS.out (by omega) (by omega)).mono ?_; rintro e w1 ⟨v1, rfl, hown1, hb1⟩)
    | (at_builtin; refine Lib.wpList_append_own_string _ rfl _ _ 30 9 rfl w.heap.size 5 i0 Tryd.underlying30 Tryd.underlying9 hi hz0 hz1 hz2 _ _ _ rfl hown1 s rfl (by simp; unfold maxLen; omega) (by simp; omega) (by have := hb1.size; omega) ?_; intro v2 w2 hown2 hgrow2 hn2)
    | go_in)
  go_ret
  have hbel : Below w.heap.size w w2 := hb1.grown hgrow2 (by have := hb1.size; omega) (fun g hg => (hown1.lt g hg).1)
  refine ⟨_, rfl, ?_, hbel⟩
  rw [strCells_u8, ← u8s_app] at hown2
  unfold Ow
  rw [textL, ← List.append_assoc, List.length_append (bs := sL s), sL_len]
  exact hown2

/-! Bytes as a text. -/
theorem conv_ow {w : World} {B : Nat} {v : Value} {l : List Int} (h : Ow w B v l) (w' : World) (hk : ∀ p : Addr, p.block < w.heap.size → B ≤ p.block → w'.cell? p = w.cell? p) :
    (convert 30 9 v).run Tryd.prog w' = .ok (.string (strOfNums l)) w' := by
  rcases h.2 with ⟨rfl, h0⟩ | ⟨g, cap, cur, rfl, hb, hg, hc, _, hs, ht⟩
  · obtain rfl : l = [] := by cases l with
      | nil => rfl
      | cons a b => simp at h0
    rw [run_convert_bytes_string w' _ 9 5 none 0 0 Tryd.underlying30 Tryd.underlying5 Tryd.underlying9]
    rfl
  · refine run_convert_bytes_arg (P := Tryd.prog) w' 30 5 Tryd.underlying30 Tryd.underlying5 g 0 l.length cap l rfl (fun i hi => ?_) 9 Tryd.underlying9
    rw [hk _ (Array.getElem?_eq_some_iff.1 hg).1 hb, Nat.zero_add]
    have hci : (u8s l)[i]? = some (.int .u8 (l.getD i 0)) := by simp [u8s, hi, List.getD]
    rw [← ht, Nat.mul_one, List.getElem?_take, if_pos hi] at hci
    simp only [World.cell?, hg]
    simpa using hci
theorem src_lit {w : World} (x : Int) (x0 : 0 ≤ x) (x1 : x ≤ 255) (t : TypeId) : Src (w.alloc (.cells #[.int .u8 x] t)) (some ⟨w.heap.size, 0, none⟩) 1 1 (fun _ => x) := by
  refine ⟨⟨by unfold maxLen; omega, .inr ⟨_, _, rfl, fun i hi => ?_⟩⟩, (fun h => by cases h), by omega⟩
  obtain rfl : i = 0 := by omega
  exact ⟨by simp, x0, x1⟩
theorem shown_str : strOfNums (bl (fun _ => 7) 1 ++ numL 4 300) = ⟨#[7, 172, 2]⟩ := by decide
end Go.Proofs.YtcppgpcgbggdcaaDoor
