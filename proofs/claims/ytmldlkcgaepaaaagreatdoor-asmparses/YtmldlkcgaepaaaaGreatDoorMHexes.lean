/-
  Contracts of the functions of layer 1 that sum over bytes (the program's and the document's Sum): each call returns the same plain number, for every row of bytes.
  Contracts of the functions of layer 1 that read words out of bytes (the program's holdsWord, together, Get and the document's Get): each call returns the same plain word, for every row of bytes and every place.
  Contracts of the functions of layer 1 that lay words into bytes (the program's Put, the document's Word): which cells hold what behind each call, for every row of bytes, every place and every word.
  The walk of the law WordBytes: for every row of bytes within the reach, every place and every word it returns true, and nothing that was there has turned.
  Contracts of the functions of layer 1 that write and read digits (the program's and the document's Hex and Unhex, the program's digitValue): each call returns the same plain text or word, for every word and every text.
-/
import Derived.Test.YtmldlkcgaepaaaaGreatDoorMMoves
import Derived.Deep.RegionHeld3
import Derived.Deep.DrawnRows
import Derived.Laws.CopyOwn
import Derived.Laws.BytesArg
import Derived.Laws.DeepStrings4
namespace Go.Proofs.YtmldlkcgaepaaaaGreatDoor
open Go.ChangeShapes Go.WideShapes Go.ChangeAt Go.RowKit

/-- What a contract is told of a row of bytes that is only read: it has no element, or its elements lie in a row of cells. -/
def RdB (w : World) (a : Option Addr) (len : Nat) (f : Nat → Int) : Prop :=
  len ≤ maxLen ∧ (len = 0 ∨ ∃ b off, a = some ⟨b, off, none⟩ ∧ ∀ i, i < len → w.cell? ⟨b, off + i, none⟩ = some (.int .u8 (f i)) ∧ 0 ≤ f i ∧ f i ≤ 255)

theorem bits_xor_u32_nat (a b : Nat) (ha : a < 4294967296) (hb : b < 4294967296) :
    bits .xor .u32 (a : Int) (b : Int) = ((a ^^^ b : Nat) : Int) := by
  have hx : a ^^^ b < 2 ^ 32 := Nat.xor_lt_two_pow (by omega) (by omega)
  have h1 : (BitVec.ofInt 32 (a : Int)).toNat = a := by
    rw [BitVec.ofInt_natCast, BitVec.toNat_ofNat]; exact Nat.mod_eq_of_lt (by omega)
  have h2 : (BitVec.ofInt 32 (b : Int)).toNat = b := by
    rw [BitVec.ofInt_natCast, BitVec.toNat_ofNat]; exact Nat.mod_eq_of_lt (by omega)
  show IntKind.u32.wrap ((BitVec.ofInt 32 (a : Int) ^^^ BitVec.ofInt 32 (b : Int)).toNat : Int) = _
  rw [BitVec.toNat_xor, h1, h2, wrap_u32]
  omega

theorem xor_low (h x : Nat) (hx : x < 256) : h ^^^ x = h / 256 * 256 + (h % 256 ^^^ x) := by
  have hl : (h % 256 ^^^ x) < 2 ^ 8 := Nat.xor_lt_two_pow (by omega) (by omega)
  rw [show h / 256 * 256 + (h % 256 ^^^ x) = 2 ^ 8 * (h / 2 ^ 8) + (h % 256 ^^^ x) by omega]
  apply Nat.eq_of_testBit_eq
  intro i
  rw [Nat.testBit_two_pow_mul_add _ hl, Nat.testBit_xor]
  by_cases hi : i < 8
  · rw [if_pos hi, Nat.testBit_xor, show (256 : Nat) = 2 ^ 8 by rfl, Nat.testBit_mod_two_pow]; simp [hi]
  · rw [if_neg hi, Nat.testBit_div_two_pow, show i - 8 + 8 = i by omega]
    have : x.testBit i = false := Nat.testBit_lt_two_pow (Nat.lt_of_lt_of_le (show x < 2 ^ 8 by omega) (Nat.pow_le_pow_right (by omega) (by omega)))
    rw [this]; simp

theorem xor_both (h x : Int) (h0 : 0 ≤ h) (h1 : h ≤ 4294967295) (x0 : 0 ≤ x) (x1 : x ≤ 255) :
    h / 256 * 256 + bits .xor .u64 (h % 256) x = bits .xor .u32 h x ∧ 0 ≤ bits .xor .u64 (h % 256) x ∧ bits .xor .u64 (h % 256) x ≤ 255 := by
  obtain ⟨m, rfl⟩ := Int.eq_ofNat_of_zero_le h0
  obtain ⟨y, rfl⟩ := Int.eq_ofNat_of_zero_le x0
  have hl : (m % 256 ^^^ y) < 2 ^ 8 := Nat.xor_lt_two_pow (by omega) (by omega)
  rw [show (m : Int) % 256 = ((m % 256 : Nat) : Int) by simp, bits_xor_u64_nat _ _ (by omega) (by omega), bits_xor_u32_nat _ _ (by omega) (by omega), xor_low m y (by omega)]
  omega

def fnv (f : Nat → Int) : Nat → Int
  | 0 => 2166136261
  | k + 1 => bits .xor .u32 (fnv f k) (f k) * 16777619 % 4294967296
theorem fnv_bd (f : Nat → Int) (k : Nat) : 0 ≤ fnv f k ∧ fnv f k ≤ 4294967295 := by
  cases k with
  | zero => simp [fnv]
  | succ k => simp only [fnv]; omega

theorem rdb_of_row {w : World} {a : Option Addr} {len cap : Nat} {zs : List Int}
    (h : (a = none ∧ len = 0 ∧ cap = 0 ∧ zs = []) ∨ ∃ x, a = some x ∧ len ≤ cap ∧ cap ≤ maxLen ∧ zs.length = cap ∧ (∀ i, i < zs.length → w.cell? (x.add i) = some (.int .u8 (zs.getD i 0))) ∧ ∀ n ∈ zs, (Lit.int .u8 n).wf = true) :
    RdB w a len (fun i => zs.getD i 0) := by
  rcases h with ⟨rfl, rfl, rfl, rfl⟩ | ⟨x, rfl, hl, hm, hz, hcell, hwz⟩
  · exact ⟨Nat.zero_le _, .inl rfl⟩
  · refine ⟨Nat.le_trans hl hm, ?_⟩
    by_cases h0 : len = 0
    · exact .inl h0
    · right
      obtain ⟨b, off, spot⟩ := x
      have hc := hcell 0 (by omega)
      have hspot : spot = none := by simpa [Addr.add] using World.cell?_spot hc
      subst hspot
      refine ⟨b, off, rfl, fun i hi => ?_⟩
      have h1 := hcell i (by omega)
      have h2 : zs.getD i 0 ∈ zs := by
        rw [List.getD_eq_getElem?_getD, List.getElem?_eq_getElem (show i < zs.length by omega)]
        exact List.getElem_mem _
      refine ⟨?_, bounds_u8 (hwz _ h2)⟩
      by_cases hi0 : i = 0
      · subst hi0; simpa [Addr.add] using h1
      · simpa [Addr.add, hi0] using h1
end Go.Proofs.YtmldlkcgaepaaaaGreatDoor

namespace Go.Proofs.YtmldlkcgaepaaaaGreatDoor
open Go.ChangeShapes Go.WideShapes Go.ChangeAt Go.RowKit

def fits (len : Nat) (at_ : Int) : Bool := decide (0 ≤ at_ ∧ at_ ≤ (len : Int) - 4)
def tgv (B : Int) (f : Nat → Int) : Nat → Int
  | 0 => 0
  | k + 1 => tgv B f k + f k * B ^ k

theorem tgv_bd8 (f : Nat → Int) (n : Nat) (hf : ∀ i, i < n → 0 ≤ f i ∧ f i ≤ 255) : ∀ k, k ≤ n → 0 ≤ tgv 256 f k ∧ tgv 256 f k < 256 ^ k
  | 0, _ => by simp [tgv]
  | k + 1, h => by
    have ih := tgv_bd8 f n hf k (by omega)
    have hk := hf k (by omega)
    have hp : (0 : Int) < 256 ^ k := Int.pow_pos (by omega)
    have h1 : 0 ≤ f k * 256 ^ k := Int.mul_nonneg hk.1 (by omega)
    have h2 : f k * 256 ^ k ≤ 255 * 256 ^ k := Int.mul_le_mul_of_nonneg_right hk.2 (by omega)
    simp only [tgv, Int.pow_succ]
    omega

theorem or_place (T x : Int) (s : Nat) (hT0 : 0 ≤ T) (hT : T < 2 ^ s) (hT1 : T ≤ 4294967295) (hx0 : 0 ≤ x) (hx : x * 2 ^ s ≤ 4294967295) : bits .or .u32 T (x * 2 ^ s % 4294967296) = T + x * 2 ^ s := by
  obtain ⟨t, rfl⟩ := Int.eq_ofNat_of_zero_le hT0
  obtain ⟨y, rfl⟩ := Int.eq_ofNat_of_zero_le hx0
  have e : (y : Int) * 2 ^ s = ((y * 2 ^ s : Nat) : Int) := by simp
  have e2 : (2 : Int) ^ s = ((2 ^ s : Nat) : Int) := by simp
  rw [e] at hx
  rw [e2] at hT
  rw [e, show ((y * 2 ^ s : Nat) : Int) % 4294967296 = ((y * 2 ^ s : Nat) : Int) by omega, bits_or_u32_nat _ _ (by omega) (by omega), Nat.or_comm, Nat.mul_comm, ← Nat.two_pow_add_eq_or_of_lt (by omega)]
  simp; omega

theorem or_step8 (f : Nat → Int) (k : Nat) (hk : k ≤ 3) (hb : 0 ≤ tgv 256 f k ∧ tgv 256 f k < 256 ^ k) (x0 : 0 ≤ f k) (x1 : f k ≤ 255) :
    bits .or .u32 (tgv 256 f k) (f k * 2 ^ (8 * k) % 4294967296) = tgv 256 f (k + 1) := by
  have e : (256 : Int) ^ k = 2 ^ (8 * k) := by rw [Int.pow_mul]; rfl
  have h1 : f k * 256 ^ k ≤ 255 * 256 ^ k := Int.mul_le_mul_of_nonneg_right x1 (Int.le_of_lt (Int.pow_pos (by omega)))
  have h2 : (256 : Int) ^ k ≤ 16777216 := by
    have : k = 0 ∨ k = 1 ∨ k = 2 ∨ k = 3 := by omega
    rcases this with rfl | rfl | rfl | rfl <;> simp
  rw [or_place _ _ _ hb.1 (by rw [← e]; exact hb.2) (by omega) x0 (by rw [← e]; omega), tgv, e]

theorem together8_any (a : Option Addr) (len cap : Nat) (f : Nat → Int) (w : World) (hr : RdB w a len f) (hl : len ≤ 4) :
    Calls Tryz.prog 83 #[.int .i64 8, .slice a len cap] w fun e w' => e = .returned (.int .u32 (tgv 256 f len)) ∧ w' = w := by
  obtain ⟨hm, hr⟩ := hr
  have hc : ∀ k, k < len → ∃ b off, a = some ⟨b, off, none⟩ ∧ w.cell? ⟨b, off + k, none⟩ = some (.int .u8 (f k)) ∧ 0 ≤ f k ∧ f k ≤ 255 := by
    intro k hk
    rcases hr with h | ⟨b, off, rfl, h⟩
    · omega
    · exact ⟨b, off, rfl, h k hk⟩
  clear hr hm
  go_enter Tryz.func83, Tryz.ntmps83
  go_wp2
  go_loop [5, 9] (fun h i => ∃ k : Nat, k ≤ len ∧ i = .int .i64 k ∧ h = .int .u32 (tgv 256 f k)) (fun _ i => len - (intOf i).toNat)
  case atStart => exact ⟨0, Nat.zero_le _, rfl, rfl⟩
  case round =>
    obtain ⟨k, hk, rfl, rfl⟩ := hrel
    have hb := tgv_bd8 f len (fun i hi => by obtain ⟨_, _, _, _, h⟩ := hc i hi; exact h) k hk
    by_cases hlt : k < len
    · obtain ⟨b, off, rfl, hcell, x0, x1⟩ := hc k hlt
      have H : Hid (bits .or .u32 (tgv 256 f k) (f k * 2 ^ (8 * k) % 4294967296) = tgv 256 f (k + 1)) := or_step8 f k (by omega) hb x0 x1
      clear hc
      go_wp2
      go_round
      case rel => exact ⟨k + 1, by omega, by go_num, by rw [H.out]⟩
      case measure => simp [intOf]; omega
    · clear hc
      go_wp2
      go_ret
      exact ⟨ret_int (by rw [show len = k by omega]), rfl⟩

theorem rdb_four (W : World) (T : TypeId) (f : Nat → Int) (hf : ∀ i, i < 4 → 0 ≤ f i ∧ f i ≤ 255) : RdB (W.alloc (.cells #[.int .u8 (f 0), .int .u8 (f 1), .int .u8 (f 2), .int .u8 (f 3)] T)) (some ⟨W.heap.size, 0, none⟩) 4 f := by
  refine ⟨by unfold maxLen; omega, .inr ⟨_, _, rfl, fun i hi => ⟨?_, hf i hi⟩⟩⟩
  rw [Nat.zero_add, World.cell?_alloc_new]
  have : i = 0 ∨ i = 1 ∨ i = 2 ∨ i = 3 := by omega
  rcases this with rfl | rfl | rfl | rfl <;> rfl
theorem rdb_four_drew (W : World) (T : TypeId) (f : Nat → Int) (hf : ∀ i, i < 4 → 0 ≤ f i ∧ f i ≤ 255) : RdB (W.alloc (.cells #[.int .u8 (f 0), .int .u8 (f 1), .int .u8 (f 2), .int .u8 (f 3)] T)).drew (some ⟨W.heap.size, 0, none⟩) 4 f := rdb_four W T f hf
def wordAt (f : Nat → Int) (at_ : Int) : Int := tgv 256 (fun i => f (at_.toNat + i)) 4
def gotW (len : Nat) (f : Nat → Int) (at_ : Int) : Int := if fits len at_ then wordAt f at_ else 0
theorem ret2b {a a' : Int} {b b' : Bool} (h : a = a') (g : b = b') : Ending.returned (.tuple #[.int .u32 a, .bool b]) = .returned (.tuple #[.int .u32 a', .bool b']) := by rw [h, g]
end Go.Proofs.YtmldlkcgaepaaaaGreatDoor

namespace Go.Proofs.YtmldlkcgaepaaaaGreatDoor
open Go.ChangeShapes Go.WideShapes Go.ChangeAt Go.RowKit

def byteOf (v : Int) (k : Nat) : Int := v / 2 ^ (8 * k) % 256
theorem byteOf_bd (v : Int) (k : Nat) : 0 ≤ byteOf v k ∧ byteOf v k ≤ 255 := by unfold byteOf; omega

/-- What lies in a row behind the first k of a word's bytes were laid at its place p. -/
def partL (L : Nat → Int) (p : Nat) (v : Int) (k i : Nat) : Int := if p ≤ i ∧ i < p + k then byteOf v (i - p) else L i

structure PutRel (w wr : World) (g off len : Nat) (L : Nat → Int) (p : Nat) (v : Int) (k : Nat) : Prop where
  cells : ∀ i, i < len → wr.cell? ⟨g, off + i, none⟩ = some (.int .u8 (partL L p v k i))
  out : ∀ i, i < off ∨ off + len ≤ i → wr.cell? ⟨g, i, none⟩ = w.cell? ⟨g, i, none⟩
  free : ∀ i, i < len → wr.frozen? ⟨g, off + i, none⟩ = false
  below : Below g w wr
  size : wr.heap.size = w.heap.size

theorem PutRel.start {w : World} {g off len : Nat} {L : Nat → Int} {p : Nat} {v : Int} (hc : ∀ i, i < len → w.cell? ⟨g, off + i, none⟩ = some (.int .u8 (L i))) (hz : ∀ i, i < len → w.frozen? ⟨g, off + i, none⟩ = false) :
    PutRel w w g off len L p v 0 :=
  ⟨fun i hi => by rw [hc i hi, partL, if_neg (by omega)], fun _ _ => rfl, hz, Below.refl _ _, rfl⟩

theorem PutRel.next {w wr : World} {g off len : Nat} {L : Nat → Int} {p : Nat} {v : Int} {k : Nat} (h : PutRel w wr g off len L p v k) (hk : p + k < len) :
    PutRel w (wr.setCell ⟨g, off + (p + k), none⟩ (.int .u8 (byteOf v k))) g off len L p v (k + 1) := by
  refine ⟨fun i hi => ?_, fun i hi => ?_, fun i hi => by simpa using h.free i hi, h.below.setCell (Nat.le_refl _) _, by simpa [World.setCell] using h.size⟩
  · by_cases e : i = p + k
    · subst e
      rw [World.cell?_setCell_same wr _ _ (h.cells _ hi), partL, if_pos (by omega), show p + k - p = k by omega]
    · rw [World.cell?_setCell_other wr ⟨g, off + (p + k), none⟩ ⟨g, off + i, none⟩ _ (by simp), h.cells i hi]
      unfold partL
      by_cases c : p ≤ i ∧ i < p + k
      · rw [if_pos c, if_pos (by omega)]
      · rw [if_neg c, if_neg (by omega)]
  · rw [World.cell?_setCell_other wr ⟨g, off + (p + k), none⟩ ⟨g, i, none⟩ _ (by simp), h.out i hi]

/-- What lies in a row behind Put. -/
def putL (len : Nat) (L : Nat → Int) (at_ v : Int) (i : Nat) : Int := if fits len at_ then partL L at_.toNat v 4 i else L i

theorem info5 : (Tryz.prog.info? 5).map (fun i => (i.zero, i.size, i.bytes)) = some (some (.int .u8 0), 1, 1) := by kernel_rfl
def bytesOf (v : Int) (k : Nat) : List Value := (List.range k).map fun j => .int .u8 (byteOf v j)
theorem bytesOf_succ (v : Int) (k : Nat) : bytesOf v (k + 1) = bytesOf v k ++ [.int .u8 (byteOf v k)] := by simp [bytesOf, List.range_succ]

end Go.Proofs.YtmldlkcgaepaaaaGreatDoor

namespace Go.Proofs.YtmldlkcgaepaaaaGreatDoor
open Go.ChangeShapes Go.WideShapes Go.ChangeAt Go.RowKit

theorem RdB.below {w w' : World} {a : Option Addr} {len : Nat} {f : Nat → Int} (h : RdB w a len f) (hb : Below w.heap.size w w') : RdB w' a len f := by
  refine ⟨h.1, h.2.imp id fun ⟨b, off, ha, hc⟩ => ⟨b, off, ha, fun i hi => ⟨?_, (hc i hi).2⟩⟩⟩
  have := World.block_lt_of_cell? _ _ (hc i hi).1
  exact (hb.cell (p := ⟨b, off + i, none⟩) this).trans (hc i hi).1

theorem four_of {w : World} {base : Nat} {x : Value} {v : Int} (h : w.ownsRow base 5 1 x 4 (bytesOf v 4)) : ∃ g c, x = .slice (some ⟨g, 0, none⟩) 4 c ∧ ∀ j, j < 4 → w.cell? ⟨g, j, none⟩ = some (.int .u8 (byteOf v j)) := by
  rcases h.2 with ⟨_, h0⟩ | ⟨g, cap, cur, rfl, _, _⟩
  · omega
  · refine ⟨g, cap, rfl, fun j hj => ?_⟩
    rw [h.cellAt j (by omega)]
    have : j = 0 ∨ j = 1 ∨ j = 2 ∨ j = 3 := by omega
    rcases this with rfl | rfl | rfl | rfl <;> rfl

/-- A row of bytes as cells. -/
def rowOf (f : Nat → Int) (len : Nat) : List Value := (List.range len).map fun i => .int .u8 (f i)
/-- What lies in the copy ahead of Put: the bytes, then noughts. -/
def baseL (len : Nat) (f : Nat → Int) (i : Nat) : Int := if i < len then f i else 0
theorem spliced {w : World} {g len : Nat} {f : Nat → Int} {Z : List Value} (hZ : Z = List.replicate (len + 8) (.int .u8 0))
    (h : w.heap[g]? = some (.cells (splice Z 0 (rowOf f len)).toArray 5 (0, 0))) :
    (∀ i, i < len + 8 → w.cell? ⟨g, i, none⟩ = some (.int .u8 (baseL len f i))) ∧ ∀ i, w.frozen? ⟨g, i, none⟩ = false := by
  refine ⟨fun i hi => ?_, fun i => ?_⟩
  · rw [cell_of_row w g i _ 5 (0, 0) h, hZ]
    simp only [splice, baseL, rowOf]
    by_cases hl : i < len
    · simp [hl, List.getElem?_append]
    · simp [hl, List.getElem?_append]
      have : i - len = 0 ∨ i - len = 1 ∨ i - len = 2 ∨ i - len = 3 ∨ i - len = 4 ∨ i - len = 5 ∨ i - len = 6 ∨ i - len = 7 := by omega
      rcases this with e | e | e | e | e | e | e | e <;> rw [e] <;> rfl
  · simp [World.frozen?, h]

theorem made_of {w : World} {base g n : Nat} (h : w.ownsRow base 5 1 (.slice (some ⟨g, 0, none⟩) n n) n (madeCells (Value.int .u8 0).cells (n * 1)).toList) :
    w.heap[g]? = some (.cells (List.replicate n (.int .u8 0)).toArray 5 (0, 0)) := by
  rcases h.2 with ⟨h0, _⟩ | ⟨g', cap, cur, hv, _, hg, _, _, hs, ht⟩
  · simp at h0
  · simp at hv
    obtain ⟨rfl, rfl⟩ := hv
    have e : cur = (List.replicate n (.int .u8 0)).toArray := by
      rw [List.take_of_length_le (by simp; omega)] at ht
      apply Array.ext'
      rw [ht, Nat.mul_one]
      simpa [Value.cells] using toList_madeCells_one (.int .u8 0) n
    rw [hg, e]
theorem copy_src {w : World} {a : Option Addr} {len : Nat} {f : Nat → Int} (h : RdB w a len f) (h0 : 0 < (rowOf f len).length) : ∃ ad, a = some ad ∧ ∀ j u, (rowOf f len)[j]? = some u → w.cell? (ad.add j) = some u := by
  have hl : 0 < len := by simpa [rowOf] using h0
  rcases h.2 with h1 | ⟨b, off, rfl, hc⟩
  · omega
  · refine ⟨_, rfl, fun j u hj => ?_⟩
    have hj' : j < len := by
      rcases Nat.lt_or_ge j len with h | h
      · exact h
      · simp [rowOf, List.getElem?_eq_none (show (List.range len).length ≤ j by simpa using h)] at hj
    have e : u = .int .u8 (f j) := by simp [rowOf, hj'] at hj; exact hj.symm
    rw [e, ← (hc j hj').1]
    by_cases hj0 : j = 0
    · subst hj0; simp [Addr.add]
    · simp [Addr.add, hj0]
theorem row_one (f : Nat → Int) (len : Nat) : ∀ u ∈ rowOf f len, u.oneCell' = true := by
  intro u hu
  simp [rowOf] at hu
  obtain ⟨i, _, rfl⟩ := hu
  rfl
theorem size5 : (Tryz.prog.info? 5).map (·.size) = some 1 := by kernel_rfl

/-- What lies in the copy behind Put, its spare room too. -/
def behindL (len : Nat) (f : Nat → Int) (at_ v : Int) (i : Nat) : Int := if i < len then putL len (baseL len f) at_ v i else 0

theorem behind_of {w3 w4 : World} {g len : Nat} {f : Nat → Int} {at_ v : Int} (h : ∀ i, i < len + 8 → w3.cell? ⟨g, i, none⟩ = some (.int .u8 (baseL len f i)))
    (p1 : ∀ i, i < len → w4.cell? ⟨g, 0 + i, none⟩ = some (.int .u8 (putL len (baseL len f) at_ v i))) (p2 : ∀ i, i < 0 ∨ 0 + len ≤ i → w4.cell? ⟨g, i, none⟩ = w3.cell? ⟨g, i, none⟩) :
    ∀ i, i < len + 8 → w4.cell? ⟨g, i, none⟩ = some (.int .u8 (behindL len f at_ v i)) := by
  intro i hi
  unfold behindL
  by_cases hl : i < len
  · rw [if_pos hl, ← p1 i hl, Nat.zero_add]
  · rw [if_neg hl, p2 i (by omega), h i hi, baseL, if_neg hl]
theorem still_of {w4 w5 : World} {g n : Nat} {L : Nat → Int} (hn : 0 < n) (h : ∀ i, i < n → w4.cell? ⟨g, i, none⟩ = some (.int .u8 (L i))) (hb : Below w4.heap.size w4 w5) :
    ∀ i, i < n → w5.cell? ⟨g, i, none⟩ = some (.int .u8 (L i)) := by
  intro i hi
  have := World.block_lt_of_cell? _ _ (h 0 hn)
  exact (hb.cell (p := ⟨g, i, none⟩) this).trans (h i hi)

theorem copy_runs {w w2 : World} {g B : Nat} {a : Option Addr} {len cap : Nat} {f : Nat → Int} (hr : RdB w2 a len f) (hg : w2.heap[g]? = some (.cells (List.replicate (len + 8) (.int .u8 0)).toArray 5 (0, 0))) (hb : Below B w w2) (hBg : B ≤ g) :
    ∃ w3, (Builtin.copy_ #[89, 89] 3 #[.slice (some ⟨g, 0, none⟩) (len + 8) (len + 8), .slice a len cap]).run Tryz.prog w2 = .ok (.int .i64 (len : Int)) w3 ∧
      Hid ((∀ i, i < len + 8 → w3.cell? ⟨g, i, none⟩ = some (.int .u8 (baseL len f i))) ∧ ∀ i, w3.frozen? ⟨g, i, none⟩ = false) ∧ Below B w w3 := by
  by_cases h0 : len = 0
  · subst h0
    refine ⟨w2, run_copy_none w2 89 89 3 5 _ _ _ _ _ _ Tryz.underlying89 size5 (by rfl), spliced rfl ?_, hb⟩
    simpa [splice, rowOf] using hg
  · obtain ⟨ad, rfl, hsrc⟩ := copy_src hr (by simp [rowOf]; omega)
    have hl : (rowOf f len).length = len := by simp [rowOf]
    have e := run_copy_row (P := Tryz.prog) w2 89 89 3 5 g 0 (len + 8) (len + 8) ad len cap _ 5 (rowOf f len) Tryz.underlying89 size5 hg (by rw [hl]; exact (Nat.min_eq_left (by omega)).symm) hsrc (by simp [rowOf]) (row_one f len)
    rw [hl] at e
    refine ⟨_, e, spliced rfl ?_, below_setRow hb hBg _⟩
    simpa [splice, hl] using setRow_heap w2 g _ _ 5 _ hg

end Go.Proofs.YtmldlkcgaepaaaaGreatDoor

namespace Go.Proofs.YtmldlkcgaepaaaaGreatDoor
open Go.ChangeShapes Go.WideShapes Go.ChangeAt Go.RowKit

def dg (k : Nat) : Int := if k < 10 then 48 + k else 55 + k
theorem dg_at (k : Nat) (h : k < 16) : ((({ data := #[48, 49, 50, 51, 52, 53, 54, 55, 56, 57, 65, 66, 67, 68, 69, 70] } : ByteArray)[k]'h).toNat : Int) = dg k := by
  have : k = 0 ∨ k = 1 ∨ k = 2 ∨ k = 3 ∨ k = 4 ∨ k = 5 ∨ k = 6 ∨ k = 7 ∨ k = 8 ∨ k = 9 ∨ k = 10 ∨ k = 11 ∨ k = 12 ∨ k = 13 ∨ k = 14 ∨ k = 15 := by omega
  rcases this with rfl | rfl | rfl | rfl | rfl | rfl | rfl | rfl | rfl | rfl | rfl | rfl | rfl | rfl | rfl | rfl <;> rfl
theorem dg_cut (k : Nat) (h : k < 16) : ({ data := #[48, 49, 50, 51, 52, 53, 54, 55, 56, 57, 65, 66, 67, 68, 69, 70] } : ByteArray).extract k (k + 1) = strOfNums [dg k] := by
  have : k = 0 ∨ k = 1 ∨ k = 2 ∨ k = 3 ∨ k = 4 ∨ k = 5 ∨ k = 6 ∨ k = 7 ∨ k = 8 ∨ k = 9 ∨ k = 10 ∨ k = 11 ∨ k = 12 ∨ k = 13 ∨ k = 14 ∨ k = 15 := by omega
  rcases this with rfl | rfl | rfl | rfl | rfl | rfl | rfl | rfl | rfl | rfl | rfl | rfl | rfl | rfl | rfl | rfl <;> decide

def isd (c : Int) : Bool := decide ((48 ≤ c ∧ c ≤ 57) ∨ (65 ≤ c ∧ c ≤ 70))
def dv (c : Int) : Int := if 48 ≤ c ∧ c ≤ 57 then c - 48 else if 65 ≤ c ∧ c ≤ 70 then c - 55 else 0
theorem dv_bd (c : Int) : 0 ≤ dv c ∧ dv c ≤ 15 := by unfold dv; split <;> (try split) <;> omega
theorem dv_dg (k : Nat) (h : k < 16) : dv (dg k) = k ∧ isd (dg k) = true := by unfold dv isd dg; simp; split <;> (try split) <;> (try split) <;> omega
theorem ret2d {a a' : Int} {b b' : Bool} (h : a = a') (g : b = b') : Ending.returned (.tuple #[.int .u8 a, .bool b]) = .returned (.tuple #[.int .u8 a', .bool b']) := by rw [h, g]
theorem no_dg (c : Int) (h : ∀ j, j < 16 → dg j ≠ c) : dv c = 0 ∧ isd c = false := by
  have h1 : ¬ ((48 ≤ c ∧ c ≤ 57) ∨ (65 ≤ c ∧ c ≤ 70)) := by
    rintro (hc | hc)
    · exact h (c - 48).toNat (by omega) (by unfold dg; rw [if_pos (by omega)]; omega)
    · exact h (c - 55).toNat (by omega) (by unfold dg; rw [if_neg (by omega)]; omega)
  refine ⟨?_, by simp only [isd, decide_eq_false_iff_not]; exact h1⟩
  unfold dv; rw [if_neg (by omega), if_neg (by omega)]

set_option maxRecDepth 20000 in
theorem digitValue_any (c : Int) (w : World) :
    Calls Tryz.prog 82 #[.int .u8 c] w fun e w' => e = .returned (.tuple #[.int .u8 (dv c), .bool (isd c)]) ∧ w' = w := by
  go_enter Tryz.func82, Tryz.ntmps82
  go_wp2
  go_loop [5] (fun i => ∃ k : Nat, k ≤ 16 ∧ i = .int .i64 k ∧ Hid (∀ j, j < k → dg j ≠ c)) (fun i => 16 - (intOf i).toNat)
  case atStart => exact ⟨0, Nat.zero_le _, rfl, fun j hj => by omega⟩
  case round =>
    obtain ⟨k, hk, rfl, HN⟩ := hrel
    by_cases hlt : k < 16
    · have HD : Hid _ := dg_at k hlt
      go_wp2
      · have hc : (((({ data := #[48, 49, 50, 51, 52, 53, 54, 55, 56, 57, 65, 66, 67, 68, 69, 70] } : ByteArray)[k]'hlt).toNat : Int) == c) = true := by assumption
        rw [HD.out] at hc
        have hc' : dg k = c := by simpa using hc
        subst hc'
        go_ret2
        exact ⟨ret2d (dv_dg k hlt).1.symm (dv_dg k hlt).2.symm, rfl⟩
      · have hc : (((({ data := #[48, 49, 50, 51, 52, 53, 54, 55, 56, 57, 65, 66, 67, 68, 69, 70] } : ByteArray)[k]'hlt).toNat : Int) == c) = false := by assumption
        rw [HD.out] at hc
        have hc' : dg k ≠ c := by simpa using hc
        go_round
        case rel =>
          refine ⟨k + 1, by omega, by go_num, fun j hj => ?_⟩
          by_cases e : j = k
          · subst e; exact hc'
          · exact HN.out j (by omega)
        case measure => simp [intOf]; omega
    · obtain rfl : k = 16 := by omega
      go_wp2
      go_ret2
      exact ⟨ret2d (no_dg c HN.out).1.symm (no_dg c HN.out).2.symm, rfl⟩

def hdg (v : Int) (k : Nat) : Int := dg (v / 2 ^ (4 * k) % 16).toNat
def hl (v : Int) : Nat → List Int
  | 0 => []
  | k + 1 => hdg v k :: hl v k
theorem hl_len (v : Int) : ∀ k, (hl v k).length = k
  | 0 => rfl
  | k + 1 => by simp [hl, hl_len v k]
theorem str_cons (x : Int) (l : List Int) : strOfNums [x] ++ strOfNums l = strOfNums (x :: l) := by
  simp [strOfNums, ByteArray.ext_iff]
def hexS (v : Int) (k : Nat) : ByteArray := strOfNums (hl v k)
theorem hexS_succ (v : Int) (k : Nat) : ({ data := #[48, 49, 50, 51, 52, 53, 54, 55, 56, 57, 65, 66, 67, 68, 69, 70] } : ByteArray).extract (v / 2 ^ (4 * k) % 16).toNat ((v / 2 ^ (4 * k) % 16).toNat + 1) ++ hexS v k = hexS v (k + 1) := by
  rw [dg_cut _ (by omega)]; exact str_cons _ _

theorem hl_get (v : Int) : ∀ k i, i < k → (hl v k).getD i 0 = hdg v (k - 1 - i)
  | 0, _, h => by omega
  | k + 1, 0, _ => by simp [hl]
  | k + 1, i + 1, h => by
    have := hl_get v k i (by omega)
    simp only [hl, List.getD_cons_succ, this]
    rw [show k + 1 - 1 - (i + 1) = k - 1 - i by omega]

structure HexRel (w wr : World) (g : Nat) (v : Int) (k : Nat) : Prop where
  cells : ∀ i, i < 8 → wr.cell? ⟨g, i, none⟩ = some (.int .u8 (if 8 - k ≤ i then hdg v (7 - i) else 0))
  free : ∀ i, wr.frozen? ⟨g, i, none⟩ = false
  below : Below g w wr
theorem HexRel.next {w wr : World} {g : Nat} {v : Int} {k : Nat} (h : HexRel w wr g v k) (hk : k < 8) : HexRel w (wr.setCell ⟨g, 7 - k, none⟩ (.int .u8 (hdg v k))) g v (k + 1) := by
  refine ⟨fun i hi => ?_, fun i => by simpa using h.free i, h.below.setCell (Nat.le_refl _) _⟩
  by_cases e : i = 7 - k
  · subst e
    rw [World.cell?_setCell_same wr _ _ (h.cells _ hi), if_pos (by omega), show 7 - (7 - k) = k by omega]
  · rw [World.cell?_setCell_other wr ⟨g, 7 - k, none⟩ ⟨g, i, none⟩ _ (by simp), h.cells i hi]
    by_cases c : 8 - k ≤ i
    · rw [if_pos c, if_pos (by omega)]
    · rw [if_neg c, if_neg (by omega)]
theorem zero_cells {w : World} {g n : Nat} (h : w.heap[g]? = some (.cells (List.replicate n (.int .u8 0)).toArray 5 (0, 0))) :
    (∀ i, i < n → w.cell? ⟨g, i, none⟩ = some (.int .u8 0)) ∧ ∀ i, w.frozen? ⟨g, i, none⟩ = false := by
  refine ⟨fun i hi => ?_, fun i => by simp [World.frozen?, h]⟩
  rw [cell_of_row w g i _ 5 (0, 0) h]
  simp [hi]

set_option maxHeartbeats 1000000 in
set_option maxRecDepth 20000 in
theorem hex_any (v : Int) (w : World) (v0 : 0 ≤ v) (v1 : v ≤ 4294967295) :
    Calls Tryz.prog 34 #[.int .u32 v] w fun e w' => e = .returned (.string (hexS v 8)) ∧ Below w.heap.size w w' := by
  obtain ⟨i0, hi, hz0, hz1, hz2⟩ := info_parts info5
  obtain ⟨g, hg⟩ : ∃ g, g = w.heap.size := ⟨_, rfl⟩
  have HG : Hid (g = w.heap.size) := hg
  rw [← hg]
  clear hg
  go_enter Tryz.func34, Tryz.ntmps34
  go_wp2_with (at_make; refine wpList_make_full _ rfl _ _ 89 rfl g 5 i0 (.int .u8 0) 1 Tryz.underlying89 hi hz0 hz1 .i64 .i64 _ _ 8 rfl rfl (by omega) (by omega) (by rw [hz2]; omega) (by unfold maxLen; omega) (Nat.le_of_eq HG.out) ?_; intro w2 hown2 hgrow2; rw [← HG.out] at hown2; have hb2 : Below g w w2 := (Below.refl _ _).grown hgrow2 (Nat.le_of_eq HG.out) (by simp); obtain ⟨z1, z2⟩ := zero_cells (made_of hown2); have hs : HexRel w w2 g v 0 := ⟨fun i hi => (z1 i hi).trans (by rw [if_neg (by omega)]), z2, hb2⟩; clear z1 z2 hown2 hgrow2 hb2; simp only [← HG.out])
  go_loopw [6] (fun i wr => ∃ k : Nat, k ≤ 8 ∧ i = .int .i64 k ∧ HexRel w wr g v k) (fun i _ => 8 - (intOf i).toNat)
  case atStart => exact ⟨0, by omega, rfl, hs⟩
  case round =>
    obtain ⟨k, hk, rfl, hr⟩ := hrel
    clear hs
    have hd : 0 ≤ v / 2 ^ (4 * k) ∧ v / 2 ^ (4 * k) ≤ 4294967295 := ⟨Int.ediv_nonneg v0 (Int.le_of_lt (Int.pow_pos (by omega))), Int.le_trans (Int.ediv_le_self _ v0) v1⟩
    by_cases hlt : k < 8
    · have c1 := hr.cells (7 - k) (by omega)
      have c2 := hr.free (7 - k)
      have hn := hr.next hlt
      have HD : Hid _ := dg_at (v / 2 ^ (4 * k) % 16).toNat (by omega)
      go_wp2
      go_roundw
      case rel =>
        refine ⟨k + 1, by omega, by go_num, ?_⟩
        rw [HD.out]
        exact hn
      case measure => simp [intOf]; omega
    · have hx := run_convert_bytes_arg (P := Tryz.prog) wr 89 5 Tryz.underlying89 Tryz.underlying5 g 0 8 8 (hl v 8) (hl_len v 8) (fun i hi => by rw [Nat.zero_add, hr.cells i hi, if_pos (by omega), hl_get v 8 i hi]) 9 Tryz.underlying9
      go_wp2
      go_ret
      exact ⟨rfl, hr.below⟩
end Go.Proofs.YtmldlkcgaepaaaaGreatDoor
