/-
  A rune of 128 or more stands in no text of ASCII bytes: strings.IndexRune and strings.ContainsRune there; and what the range over a text decodes.
  Layer 6's cut, the program's: it parts every text at the first of some ASCII bytes.
  What a line says, and its operands: layer 6's saidBy and operandsOf, the program's, of every text.
-/
import Derived.Test.YtmldlkcgaepaaaaGreatDoorMVrs
import Derived.Laws.RangeAny
import Derived.Deep.LoopGhost
import Derived.Test.YtmldlkcgaepaaaaGreatDoorMTxt
import Derived.Test.YtmldlkcgaepaaaaGreatDoorMMap
namespace Go.Proofs.YtmldlkcgaepaaaaGreatDoor
open Go.ChangeShapes Go.WideShapes Go.ChangeAt Go.RowKit

theorem decode_valid (s : ByteArray) (pos : Nat) : Utf8.valid ((Utf8.decode s pos).1 : Nat) = true := by
  have hb : ∀ k, (s.get! (pos + k)).toNat < 256 := fun k => (s.get! (pos + k)).toNat_lt
  have h0 := hb 0; have h1 := hb 1; have h2 := hb 2; have h3 := hb 3
  simp only [Utf8.decode]
  repeat' split
  all_goals simp_all [Utf8.runeError, Utf8.valid]
  all_goals omega
theorem decode_wide (s : ByteArray) (pos : Nat) (h : pos < s.size) (ha : 128 ≤ (s[pos]'h).toNat) :
    pos + (Utf8.decode s pos).2 ≤ s.size ∧ ∀ j (hj : j < s.size), pos ≤ j → j < pos + (Utf8.decode s pos).2 → 128 ≤ (s[j]'hj).toNat := by
  have hg : ∀ k (hk : pos + k < s.size), s.get! (pos + k) = s[pos + k]'hk := fun k hk => get_at s (pos + k) hk
  have e0 := get_at s pos h
  have hn : ¬ (s[pos]'h).toNat < 128 := by omega
  have key : ∀ n, (∀ k, k < n → ∃ hk : pos + k < s.size, 128 ≤ (s[pos + k]'hk).toNat) → 1 ≤ n → pos + n ≤ s.size ∧ ∀ j (hj : j < s.size), pos ≤ j → j < pos + n → 128 ≤ (s[j]'hj).toNat := fun n hk h1 => by
    refine ⟨by obtain ⟨q, _⟩ := hk (n - 1) (by omega); omega, fun j hj a b => ?_⟩
    obtain ⟨q, hq⟩ := hk (j - pos) (by omega)
    have : pos + (j - pos) = j := by omega
    simpa [this] using hq
  have cont : ∀ k, (decide (pos + k < s.size) && (s.get! (pos + k)).toNat / 64 == 2) = true → ∃ hk : pos + k < s.size, 128 ≤ (s[pos + k]'hk).toNat := fun k hk => by
    simp only [Bool.and_eq_true, decide_eq_true_eq, beq_iff_eq] at hk
    refine ⟨hk.1, ?_⟩
    rw [hg k hk.1] at hk
    omega
  have z : ∃ hk : pos + 0 < s.size, 128 ≤ (s[pos + 0]'hk).toNat := ⟨h, ha⟩
  simp only [Utf8.decode, e0, hn, if_false]
  split
  · rename_i c; simp only [Bool.and_eq_true] at c
    split
    · refine key 2 (fun k hk => ?_) (by omega)
      rcases (show k = 0 ∨ k = 1 by omega) with rfl | rfl
      · exact z
      · exact cont 1 (by simp only [Bool.and_eq_true]; exact c.2)
    · exact key 1 (fun k hk => by obtain rfl : k = 0 := by omega
                                  exact z) (by omega)
  · split
    · rename_i c; simp only [Bool.and_eq_true] at c
      split
      · refine key 3 (fun k hk => ?_) (by omega)
        rcases (show k = 0 ∨ k = 1 ∨ k = 2 by omega) with rfl | rfl | rfl
        · exact z
        · exact cont 1 (by simp only [Bool.and_eq_true]; exact c.1.2)
        · exact cont 2 (by simp only [Bool.and_eq_true]; exact c.2)
      · exact key 1 (fun k hk => by obtain rfl : k = 0 := by omega
                                    exact z) (by omega)
    · split
      · rename_i c; simp only [Bool.and_eq_true] at c
        split
        · refine key 4 (fun k hk => ?_) (by omega)
          rcases (show k = 0 ∨ k = 1 ∨ k = 2 ∨ k = 3 by omega) with rfl | rfl | rfl | rfl
          · exact z
          · exact cont 1 (by simp only [Bool.and_eq_true]; exact c.1.1.2)
          · exact cont 2 (by simp only [Bool.and_eq_true]; exact c.1.2)
          · exact cont 3 (by simp only [Bool.and_eq_true]; exact c.2)
        · exact key 1 (fun k hk => by obtain rfl : k = 0 := by omega
                                      exact z) (by omega)
      · exact key 1 (fun k hk => by obtain rfl : k = 0 := by omega
                                    exact z) (by omega)
set_option maxRecDepth 100000 in
theorem idx_err (s : ByteArray) (hs : ∀ j (h : j < s.size), (s[j]'h).toNat < 128) (hm : s.size ≤ 100) (w : World) :
    Calls Tryz.prog 74 #[.string s, .int .i32 65533] w fun e w' => e = .returned (.int .i64 (-1)) ∧ Below w.heap.size w w' := by
  go_enter Tryz.func74, Tryz.ntmps74
  go_wp2
  go_loopg [] 100 (fun gf wx => ∃ pos : Nat, wx.heap[w.heap.size]? = some (.stringIter s pos) ∧ Below w.heap.size w wx ∧ s.size ≤ pos + gf)
  case atStart => exact ⟨0, World.iter_heap w s 0, (Below.refl _ w).alloc (Nat.le_refl _) _, by omega⟩
  case round =>
    obtain ⟨pos, hit, hbw, hfu⟩ := hrel
    by_cases hps : pos < s.size
    · obtain ⟨g', rfl⟩ : ∃ g', gk = g' + 1 := ⟨gk - 1, by omega⟩
      have ha := hs pos hps
      have hnx : ∀ ty, (Instr.next (.pointer (some ⟨w.heap.size, 0, none⟩)) true ty).run Tryz.prog wr = _ := fun ty => Lib.run_next_ascii_at wr w.heap.size s pos ty hit hps ha
      have hne : (((s[pos]'hps).toNat : Int) == 65533) = false := beq_eq_false_iff_ne.2 (by omega)
      have hit2 := Lib.iterAt_heap wr w.heap.size s pos (pos + 1) hit
      have hbw2 := Lib.below_iterAt hbw (k := w.heap.size) (Nat.le_refl _) s (pos + 1)
      obtain ⟨W, hWd⟩ : ∃ W, wr.iterAt w.heap.size s (pos + 1) = W := ⟨_, rfl⟩
      rw [hWd] at hnx hit2 hbw2
      clear hs hit hbw hWd
      go_wp2
      go_roundg g'
      case measure => omega
      case rel => exact ⟨pos + 1, hit2, hbw2, by omega⟩
    · have hnx : ∀ ty, (Instr.next (.pointer (some ⟨w.heap.size, 0, none⟩)) true ty).run Tryz.prog wr = _ := fun ty => Lib.run_next_end_at wr w.heap.size s pos ty hit hps
      clear hs
      go_wp2
      go_ret
      exact ⟨rfl, hbw⟩
theorem conv_rune (r : Int) (w : World) : (convert 21 9 (.int .i32 r)).run Tryz.prog w = .ok (.string (Utf8.encode r)) w := by
  simp [convert, run_underlying Tryz.underlying21, run_underlying Tryz.underlying9, Conv.intToString]
theorem enc_high (r : Int) (h0 : 128 ≤ r) : ∃ n, 1 ≤ n ∧ n ≤ 3 ∧ (Utf8.encode r).size = n + 1 ∧ ∀ h : n < (Utf8.encode r).size, 128 ≤ ((Utf8.encode r)[n]'h).toNat := by
  obtain ⟨c, hcd⟩ : ∃ c, c = (if Utf8.valid r then r.toNat else Utf8.runeError) := ⟨_, rfl⟩
  have hc : ¬ c < 128 := by rw [hcd]; split <;> (try unfold Utf8.runeError) <;> omega
  have e : Utf8.encode r = if c < 0x800 then ⟨#[UInt8.ofNat (0xC0 + c / 64), UInt8.ofNat (0x80 + c % 64)]⟩
    else if c < 0x10000 then ⟨#[UInt8.ofNat (0xE0 + c / 4096), UInt8.ofNat (0x80 + c / 64 % 64), UInt8.ofNat (0x80 + c % 64)]⟩
    else ⟨#[UInt8.ofNat (0xF0 + c / 262144), UInt8.ofNat (0x80 + c / 4096 % 64), UInt8.ofNat (0x80 + c / 64 % 64), UInt8.ofNat (0x80 + c % 64)]⟩ := by
    unfold Utf8.encode
    simp only [← hcd, hc, if_false]
  have hb : 128 ≤ (UInt8.ofNat (128 + c % 64)).toNat := by
    have : (UInt8.ofNat (128 + c % 64)).toNat = 128 + c % 64 := by simp; omega
    omega
  rw [e]
  split
  · exact ⟨1, by omega, by omega, rfl, fun _ => hb⟩
  · split
    · exact ⟨2, by omega, by omega, rfl, fun _ => hb⟩
    · exact ⟨3, by omega, by omega, rfl, fun _ => hb⟩
theorem idx_none (l : List UInt8) (c : UInt8) (h : ∀ x ∈ l, x ≠ c) : Lib.indexByte l c = -1 := by
  induction l with
  | nil => rfl
  | cons x r ih =>
    have hx := h x (by simp)
    have := ih fun y hy => h y (by simp [hy])
    simp [Lib.indexByte, this, hx]
theorem ascii_mem {s : ByteArray} (hs : ∀ j (h : j < s.size), (s[j]'h).toNat < 128) (x : UInt8) (hx : x ∈ s.data.toList) : x.toNat < 128 := by
  obtain ⟨j, hj, rfl⟩ := List.mem_iff_getElem.1 hx
  exact hs j (by simpa using hj)
theorem extract_mem (s : ByteArray) (a b : Nat) (x : UInt8) (hx : x ∈ (s.extract a b).data.toList) : x ∈ s.data.toList := by
  rw [ByteArray.data_extract, Array.toList_extract] at hx
  exact List.mem_of_mem_drop (List.mem_of_mem_take hx)
set_option maxRecDepth 100000 in
theorem idx_high (s : ByteArray) (hs : ∀ j (h : j < s.size), (s[j]'h).toNat < 128) (r : Int) (h0 : 128 ≤ r) (hv : Utf8.valid r = true) (hne : r ≠ 65533) (w : World) :
    Calls Tryz.prog 74 #[.string s, .int .i32 r] w fun e w' => e = .returned (.int .i64 (-1)) ∧ Below w.heap.size w w' := by
  have hv2 : Lib.validRune r = true := by unfold Lib.validRune; unfold Utf8.valid at hv; simp only [Bool.or_eq_true, Bool.and_eq_true, decide_eq_true_eq] at hv ⊢; omega
  have g1 : decide (0 ≤ r) = true := by simp; omega
  have g2 : decide (r < 128) = false := by simp; omega
  have g3 : (r == 65533) = false := by simpa using hne
  have VR := Tryz.utf8_ValidRune r
  rw [hv2] at VR
  have hcv := conv_rune r
  obtain ⟨n, n1, n3, hn, hlast⟩ := enc_high r h0
  generalize Utf8.encode r = rs at hcv hn hlast
  have hrs : n < rs.size := by omega
  have hlast := hlast hrs
  have hl2 := (rs[n]'hrs).toNat_lt
  have IX : Hid (∀ a b : Nat, Lib.indexByte (s.extract a b).data.toList ((rs[n]'hrs).toNat : Int).toNat.toUInt8 = -1) := fun a b => idx_none _ _ fun x hx => by
    have := ascii_mem hs x (extract_mem s a b x hx)
    intro e
    rw [e] at this
    simp at this
    omega
  have HS : Hid (∀ j (h : j < s.size), (s[j]'h).toNat < 128) := hs
  clear hs hv hv2 hne
  go_enter Tryz.func74, Tryz.ntmps74
  go_wp2_with (go_at_call 105; refine (VR _).mono ?_; rintro e w1 ⟨rfl, hw1⟩; rw [hw1]; clear hw1)
  refine wp_scope_straight ?_
  go_wp2
  go_loopg [9] 0 (fun _ s9 wx => s9 = .int .i64 n ∧ wx = w)
  case atStart => exact ⟨by go_num, rfl⟩
  case round =>
    obtain ⟨rfl, hwr⟩ := hrel
    subst hwr
    clear hn
    by_cases hlt : n < s.size
    · have hsn := HS.out n hlt
      have hne2 : (((s[n]'hlt).toNat : Int) != ((rs[n]'hrs).toNat : Int)) = true := by simp; omega
      have hb1 : (n : Int) + 1 ≤ s.size := by omega
      have hb2 : IntKind.i64.wrap ((n : Int) + 1) = ((n + 1 : Nat) : Int) := by rw [IntKind.wrap_i64]; omega
      have hsl : ∀ W, (Instr.slice 9 (.string s) (some (.int .i64 ((n : Int) + 1))) none none).run Tryz.prog W = .ok (.string (s.extract (n + 1) s.size)) W := fun W => run_slice_string_l W 9 s Tryz.underlying9 .i64 _ (by omega) (by omega)
      go_wp2
      refine wp_scope_straight ?_
      go_wp2
      go_quiet (fail)
      go_wp2
      go_quiet ((go_at_call 104; exact quiet_of2 ((Tryz.strings_IndexByte _ _ _).mono fun _ _ h => ⟨h.1, 0, by rw [World.drewN_zero]; exact h.2⟩)))
      rw [IX.out]
      go_wp2
      simp only [Exit.noGoto, Exit.inBlock, Exit.then]
      go_ret
      exact ⟨rfl, bdrewN (Below.refl _ _) _⟩
    · have hd : decide ((n : Int) < s.size) = false := by simp; omega
      go_wp2
      simp only [Exit.noGoto, Exit.inBlock]
      go_ret
      exact ⟨rfl, Below.refl _ _⟩
theorem idxR_any (s : ByteArray) (hs : ∀ j (h : j < s.size), (s[j]'h).toNat < 128) (hm : s.size ≤ 100) (r : Int) (h0 : 128 ≤ r) (hv : Utf8.valid r = true) (w : World) :
    Calls Tryz.prog 74 #[.string s, .int .i32 r] w fun e w' => e = .returned (.int .i64 (-1)) ∧ Below w.heap.size w w' := by
  by_cases e : r = 65533
  · subst e; exact idx_err s hs hm w
  · exact idx_high s hs r h0 hv e w
theorem contains_high (s : ByteArray) (hs : ∀ j (h : j < s.size), (s[j]'h).toNat < 128) (hm : s.size ≤ 100) (r : Int) (h0 : 128 ≤ r) (hv : Utf8.valid r = true) (w : World) :
    Calls Tryz.prog 44 #[.string s, .int .i32 r] w fun e w' => e = .returned (.bool false) ∧ Below w.heap.size w w' := by
  have hT := idxR_any s hs hm r h0 hv w
  clear hs h0 hv
  go_enter Tryz.func44, Tryz.ntmps44
  go_wp2_with (go_at_call 74; refine hT.mono ?_; rintro e w1 ⟨rfl, hb⟩)
  go_ret
  exact ⟨rfl, hb⟩
theorem idx_byte (c : UInt8) : ∀ l : List UInt8, decide (0 ≤ Lib.indexByte l c) = l.contains c
  | [] => rfl
  | x :: r => by
    have ih := idx_byte c r
    by_cases hx : x = c
    · simp [Lib.indexByte, hx]
    · have hm : Lib.indexByte r c = -1 ∨ 0 ≤ Lib.indexByte r c := by
        cases h : r.contains c
        · rw [h, decide_eq_false_iff_not] at ih
          exact .inl (idx_none r c fun y hy e => by rw [e] at hy; simp [hy] at h)
        · rw [h, decide_eq_true_eq] at ih
          exact .inr ih
      rw [List.contains_cons, ← ih]
      have hx2 : (c == x) = false := by simpa using fun e => hx e.symm
      rw [hx2, Bool.false_or]
      rcases hm with hm | hm
      · simp [Lib.indexByte, hx, hm]
      · have : (Lib.indexByte r c == -1) = false := by simp; omega
        simp [Lib.indexByte, hx]
        omega
theorem contains_low (s : ByteArray) (c : UInt8) (hc : c.toNat < 128) (w : World) :
    Calls Tryz.prog 44 #[.string s, .int .i32 c.toNat] w fun e w' => e = .returned (.bool (s.data.toList.contains c)) ∧ Below w.heap.size w w' := by
  have := Tryz.strings_ContainsRune_ascii s c.toNat w (by omega) (by omega)
  rw [idx_byte] at this
  refine this.mono fun e w' h => ⟨?_, h.2 ▸ Below.refl _ _⟩
  rw [h.1]; simp
end Go.Proofs.YtmldlkcgaepaaaaGreatDoor

namespace Go.Proofs.YtmldlkcgaepaaaaGreatDoor
set_option linter.unusedVariables false
set_option linter.unusedSimpArgs false
open Go.ChangeShapes Go.WideShapes Go.ChangeAt Go.RowKit

theorem cut_hit (p : UInt8 → Bool) : ∀ (l : Bs) (k : Nat) (h : k < l.length), p l[k] = true → (∀ j (hj : j < l.length), j < k → p l[j] = false) → cutB p l = l.take k ∧ cutR p l = l.drop (k + 1) ∧ cutH p l = true
  | [], k, h, _, _ => absurd h (by simp)
  | x :: r, 0, _, hp, _ => by
    have hp : p x = true := hp
    simp [cutB, cutR, cutH, hp]
  | x :: r, k + 1, h, hp, hn => by
    have hx : p x = false := hn 0 (by simp) (by omega)
    have ih := cut_hit p r k (by simpa using h) (by simpa using hp) (fun j hj hk => by have := hn (j + 1) (by simpa using hj) (by omega); simpa using this)
    simp only [cutB, cutR, cutH] at ih ⊢
    simp [hx, ih]
theorem cut_miss (p : UInt8 → Bool) : ∀ (l : Bs), (∀ j (hj : j < l.length), p l[j] = false) → cutB p l = l ∧ cutR p l = [] ∧ cutH p l = false
  | [], _ => ⟨rfl, rfl, rfl⟩
  | x :: r, hn => by
    have hx : p x = false := hn 0 (by simp)
    have ih := cut_miss p r (fun j hj => by have := hn (j + 1) (by simpa using hj); simpa using this)
    simp only [cutB, cutR, cutH] at ih ⊢
    simp [hx, ih]
theorem bs_take (s : ByteArray) (k : Nat) : s.extract 0 k = bs (s.data.toList.take k) := by
  rw [← bs_of (s.extract 0 k), ByteArray.data_extract, Array.toList_extract]; simp
theorem bs_drop (s : ByteArray) (k : Nat) : s.extract k s.size = bs (s.data.toList.drop k) := by
  rw [← bs_of (s.extract k s.size), ByteArray.data_extract, Array.toList_extract]
  congr 1
  rw [List.extract_eq_take_drop, List.take_of_length_le]
  rw [List.length_drop]; simp only [ByteArray.size, Array.length_toList]; omega
theorem ret_cut {a a' b b' : ByteArray} {c c' : Bool} (h1 : a = a') (h2 : b = b') (h3 : c = c') : Ending.returned (.tuple #[.string a, .string b, .bool c]) = .returned (.tuple #[.string a', .string b', .bool c']) := by rw [h1, h2, h3]
theorem cut_any (s at_ : ByteArray) (hat : ∀ j (h : j < at_.size), (at_[j]'h).toNat < 128) (hm : at_.size ≤ 100) (hs : s.size ≤ 9223372036854775806) (w : World) :
    Calls Tryz.prog 19 #[.string s, .string at_] w fun e w' => e = .returned (.tuple #[.string (bs (cutB at_.data.toList.contains s.data.toList)), .string (bs (cutR at_.data.toList.contains s.data.toList)), .bool (cutH at_.data.toList.contains s.data.toList)]) ∧ Below w.heap.size w w' := by
  have hln : s.data.toList.length = s.size := by simp only [ByteArray.size, Array.length_toList]
  have hel : ∀ j (h : j < s.size), s.data.toList[j]'(by omega) = s[j]'h := fun j h => by simp [ByteArray.getElem_eq_getElem_data]
  have hhi : ∀ c : UInt8, 128 ≤ c.toNat → at_.data.toList.contains c = false := fun c hc => by
    cases h : at_.data.toList.contains c
    · rfl
    · have := ascii_mem hat c (by simpa using h); omega
  have HT : Hid (∀ j (h : j < at_.size), (at_[j]'h).toNat < 128) := hat
  clear hat
  go_enter Tryz.func19, Tryz.ntmps19
  go_wp2
  go_loopg [] s.size (fun gf wx => ∃ pos : Nat, pos ≤ s.size ∧ s.size ≤ pos + gf ∧ wx.heap[w.heap.size]? = some (.stringIter s pos) ∧ Below w.heap.size w wx ∧ ∀ j (h : j < s.size), j < pos → at_.data.toList.contains (s[j]'h) = false)
  case atStart => exact ⟨0, Nat.zero_le _, by omega, World.iter_heap w s 0, (Below.refl _ w).alloc (Nat.le_refl _) _, fun j _ h => by omega⟩
  case round =>
    obtain ⟨pos, hp1, hp2, hit, hbw, hno⟩ := hrel
    by_cases hlt : pos < s.size
    · obtain ⟨g', rfl⟩ : ∃ g', gk = g' + 1 := ⟨gk - 1, by omega⟩
      have hltW : w.heap.size < wr.heap.size := (Array.getElem?_eq_some_iff.1 hit).1
      by_cases ha : (s[pos]'hlt).toNat < 128
      · have hnx : ∀ ty, (Instr.next (.pointer (some ⟨w.heap.size, 0, none⟩)) true ty).run Tryz.prog wr = _ := fun ty => Lib.run_next_ascii_at wr w.heap.size s pos ty hit hlt ha
        have hit2 := Lib.iterAt_heap wr w.heap.size s pos (pos + 1) hit
        have hbw2 := Lib.below_iterAt hbw (k := w.heap.size) (Nat.le_refl _) s (pos + 1)
        have hsz2 := Lib.iterAt_size wr w.heap.size s (pos + 1)
        obtain ⟨W, hWd⟩ : ∃ W, wr.iterAt w.heap.size s (pos + 1) = W := ⟨_, rfl⟩
        rw [hWd] at hnx hit2 hbw2 hsz2
        have CR := contains_low at_ (s[pos]'hlt) ha W
        obtain ⟨c, hc⟩ : ∃ c, c = (s[pos]'hlt) := ⟨_, rfl⟩
        rw [← hc] at hnx CR
        have HN : Hid (∀ j (h : j < s.size), j < pos → at_.data.toList.contains (s[j]'h) = false) := hno
        have HC : Hid (c = (s[pos]'hlt)) := hc
        clear hit hbw hWd hno hc ha
        cases hcc : at_.data.toList.contains c
        · rw [hcc] at CR
          go_wp2_with (go_at_call 44; refine CR.mono ?_; rintro e W' ⟨rfl, hbc⟩)
          go_roundg g'
          case measure => omega
          case rel =>
            refine ⟨pos + 1, by omega, by omega, (hbc.block _ (by omega)).trans hit2, hbw2.trans (hbc.mono (by omega)), fun j h hj => ?_⟩
            by_cases e : j = pos
            · subst e; rw [← HC.out]; exact hcc
            · exact HN.out j h (by omega)
        · rw [hcc] at CR
          obtain ⟨h1, h2, h3⟩ := cut_hit at_.data.toList.contains s.data.toList pos (by omega) (by rw [hel pos hlt, ← HC.out]; exact hcc) (fun j hj hk => by rw [hel j (by omega)]; exact HN.out j (by omega) hk)
          have H1 : Hid _ := h1
          have H2 : Hid _ := h2
          have H3 : Hid _ := h3
          clear h1 h2 h3
          have hw1 : IntKind.i64.wrap ((pos : Int) + 1) = (pos : Int) + 1 := by rw [IntKind.wrap_i64]; omega
          have hsl : ∀ W, (Instr.slice 9 (.string s) (some (.int .i64 ((pos : Int) + 1))) none none).run Tryz.prog W = .ok (.string (s.extract (pos + 1) s.size)) W := fun W => run_slice_string_l W 9 s Tryz.underlying9 .i64 _ (by omega) (by omega)
          have hsh : ∀ W, (Instr.slice 9 (.string s) none (some (.int .i64 (pos : Int))) none).run Tryz.prog W = .ok (.string (s.extract 0 pos)) W := fun W => run_slice_string_h W 9 s Tryz.underlying9 .i64 _ (by omega) (by omega)
          go_wp2_with (go_at_call 44; refine CR.mono ?_; rintro e W' ⟨rfl, hbc⟩)
          go_quiet (fail)
          go_wp2
          go_ret3
          exact ⟨ret_cut (by rw [H1.out, bs_take]) (by rw [H2.out, bs_drop]) (by rw [H3.out]), bdrewN (hbw2.trans (hbc.mono (by omega))) _⟩
      · have hnx : ∀ ty, (Instr.next (.pointer (some ⟨w.heap.size, 0, none⟩)) true ty).run Tryz.prog wr = _ := fun ty => Lib.run_next_any_at wr w.heap.size s pos ty hit hlt
        obtain ⟨hd1, hd2⟩ := decode_high s pos hlt (by omega)
        obtain ⟨hd3, hd4⟩ := decode_wide s pos hlt (by omega)
        have hdv := decode_valid s pos
        have hdl := decode_le s pos
        obtain ⟨R, hR⟩ : ∃ R, (Utf8.decode s pos).1 = R := ⟨_, rfl⟩
        obtain ⟨K, hK⟩ : ∃ K, (Utf8.decode s pos).2 = K := ⟨_, rfl⟩
        rw [hR] at hnx hd1 hdv hdl
        rw [hK] at hnx hd2 hd3 hd4
        have hit2 := Lib.iterAt_heap wr w.heap.size s pos (pos + K) hit
        have hbw2 := Lib.below_iterAt hbw (k := w.heap.size) (Nat.le_refl _) s (pos + K)
        have hsz2 := Lib.iterAt_size wr w.heap.size s (pos + K)
        obtain ⟨W, hWd⟩ : ∃ W, wr.iterAt w.heap.size s (pos + K) = W := ⟨_, rfl⟩
        rw [hWd] at hnx hit2 hbw2 hsz2
        have CR := contains_high at_ HT.out hm R (by omega) hdv W
        have HN : Hid (∀ j (h : j < s.size), j < pos → at_.data.toList.contains (s[j]'h) = false) := hno
        have HD : Hid (∀ j (hj : j < s.size), pos ≤ j → j < pos + K → 128 ≤ (s[j]'hj).toNat) := hd4
        have HH : Hid (∀ c : UInt8, 128 ≤ c.toNat → at_.data.toList.contains c = false) := hhi
        clear hit hbw hWd hno hd4 hhi hel hR hK ha
        go_wp2_with (go_at_call 44; refine CR.mono ?_; rintro e W' ⟨rfl, hbc⟩)
        go_roundg g'
        case measure => omega
        case rel =>
          refine ⟨pos + K, by omega, by omega, (hbc.block _ (by omega)).trans hit2, hbw2.trans (hbc.mono (by omega)), fun j h hj => ?_⟩
          by_cases e : j < pos
          · exact HN.out j h e
          · exact HH.out _ (HD.out j h (by omega) hj)
    · obtain rfl : pos = s.size := by omega
      obtain ⟨h1, h2, h3⟩ := cut_miss at_.data.toList.contains s.data.toList (fun j hj => by rw [hel j (by omega)]; exact hno j (by omega) (by omega))
      have H1 : Hid _ := h1
      have H2 : Hid _ := h2
      have H3 : Hid _ := h3
      have hnx : ∀ ty, (Instr.next (.pointer (some ⟨w.heap.size, 0, none⟩)) true ty).run Tryz.prog wr = _ := fun ty => Lib.run_next_end_at wr w.heap.size s s.size ty hit hlt
      clear h1 h2 h3 hno hhi hel
      go_wp2
      go_ret3
      exact ⟨ret_cut (by rw [H1.out, bs_of]) (by rw [H2.out]; rfl) (by rw [H3.out]), hbw⟩
end Go.Proofs.YtmldlkcgaepaaaaGreatDoor

namespace Go.Proofs.YtmldlkcgaepaaaaGreatDoor
set_option linter.unusedVariables false
set_option linter.unusedSimpArgs false
open Go.ChangeShapes Go.WideShapes Go.ChangeAt Go.RowKit

def saidP (l : Bs) : Bs := trimP (cutB [59].contains l)
def operandsP (l : Bs) : List Bs := (parts 44 l).map trimP
theorem cutB_cons (p : UInt8 → Bool) (x : UInt8) (r : Bs) : cutB p (x :: r) = if p x then [] else x :: cutB p r := by cases h : p x <;> simp [cutB, h]
theorem cutR_cons (p : UInt8 → Bool) (x : UInt8) (r : Bs) : cutR p (x :: r) = if p x then r else cutR p r := by cases h : p x <;> simp [cutR, h]
theorem cutH_cons (p : UInt8 → Bool) (x : UInt8) (r : Bs) : cutH p (x :: r) = (p x || cutH p r) := by simp [cutH]
theorem cutB_len (p : UInt8 → Bool) (l : Bs) : (cutB p l).length ≤ l.length := (List.takeWhile_sublist _).length_le
theorem cutR_len (p : UInt8 → Bool) : ∀ l : Bs, (cutR p l).length ≤ l.length ∧ (cutH p l = true → (cutR p l).length < l.length)
  | [] => ⟨by simp [cutR], by simp [cutH]⟩
  | x :: r => by
    have ih := cutR_len p r
    rw [cutR_cons, cutH_cons]
    cases hx : p x
    · simp only [Bool.false_eq_true, if_false, Bool.false_or, List.length_cons]
      exact ⟨by omega, fun h => by have := ih.2 h; omega⟩
    · simp
theorem one_has (c x : UInt8) : [c].contains x = decide (x = c) := by simp
theorem parts_hit (c : UInt8) : ∀ l : Bs, cutH [c].contains l = true → parts c l = cutB [c].contains l :: parts c (cutR [c].contains l)
  | [], h => by simp [cutH] at h
  | x :: r, h => by
    rw [cutH_cons, one_has] at h
    rw [cutB_cons, cutR_cons, one_has]
    by_cases hx : x = c
    · simp [parts, hx]
    · simp only [hx, decide_false, Bool.false_or] at h
      have ih := parts_hit c r h
      rw [parts, if_neg hx, ih]
      simp [hx]
theorem parts_miss (c : UInt8) : ∀ l : Bs, cutH [c].contains l = false → parts c l = [l] ∧ cutB [c].contains l = l
  | [], h => ⟨rfl, rfl⟩
  | x :: r, h => by
    rw [cutH_cons, one_has, Bool.or_eq_false_iff] at h
    have hx : x ≠ c := by simpa using h.1
    have ih := parts_miss c r h.2
    rw [cutB_cons, one_has, ih.2]
    exact ⟨by rw [parts, if_neg hx, ih.1]; rfl, by simp [hx]⟩
theorem trim_len (l : Bs) : (trimP l).length ≤ l.length := by
  rw [trimP_eq]
  have h1 := (List.dropWhile_sublist blk (l := l.reverse)).length_le
  have h2 := (List.dropWhile_sublist blk (l := (l.reverse.dropWhile blk).reverse)).length_le
  rw [List.length_reverse] at h1 h2
  omega
theorem asc1 (c : UInt8) (hc : c.toNat < 128) : ∀ j (h : j < (⟨#[c]⟩ : ByteArray).size), ((⟨#[c]⟩ : ByteArray)[j]'h).toNat < 128 := fun j h => by
  have : j = 0 := by simp [ByteArray.size] at h; omega
  subst this; exact hc
theorem said_any (s : ByteArray) (hs : s.size ≤ 9223372036854775806) (w : World) :
    Calls Tryz.prog 10 #[.string s] w fun e w' => e = .returned (.string (bs (saidP s.data.toList))) ∧ Below w.heap.size w w' := by
  have hC := cut_any s ⟨#[59]⟩ (asc1 59 (by decide)) (by decide) hs w
  have hT : ∀ w, Calls Tryz.prog 20 #[.string (bs (cutB [59].contains s.data.toList))] w fun e w' => e = .returned (.string (bs (saidP s.data.toList))) ∧ Below w.heap.size w w' := fun w => by
    have := trim_any (bs (cutB [59].contains s.data.toList)) w (by rw [bs_size]; have := cutB_len [59].contains s.data.toList; simp only [Array.length_toList] at this; simp only [ByteArray.size] at hs; omega)
    rwa [bs_data] at this
  go_enter Tryz.func10, Tryz.ntmps10
  go_wp2_with (first | (go_at_call 19; refine hC.mono ?_; rintro e w1 ⟨rfl, hb⟩) | (go_at_call 20; refine (hT _).mono ?_; rintro e w2 ⟨rfl, hb2⟩))
  go_ret
  exact ⟨rfl, hb.trans (hb2.mono hb.size)⟩
set_option maxHeartbeats 1000000 in
theorem operands_any (l : Bs) (hl : l.length ≤ 1000000) (w : World) :
    Calls Tryz.prog 21 #[.string (bs l)] w fun e w' => ∃ v, e = .returned v ∧ w'.ownsRow w.heap.size 9 1 v (operandsP l).length (strs (operandsP l)) ∧ Below w.heap.size w w' := by
  obtain ⟨i0, hi0, hz0, hz1, hz2⟩ := info_parts info9'
  go_enter Tryz.func21, Tryz.ntmps21
  go_wp2
  go_loopg [0, 3, 4] (l.length + 1) (fun gf s0 s3 s4 wx => ∃ (r : Bs) (more : Bool) (d : List Bs), s0 = .string (bs r) ∧ s4 = .bool more ∧ wx.ownsRow w.heap.size 9 1 s3 d.length (strs d) ∧ Below w.heap.size w wx ∧ r.length + d.length ≤ l.length + 1 ∧ (more = true → r.length + d.length ≤ l.length ∧ r.length + 1 ≤ gf ∧ d ++ operandsP r = operandsP l) ∧ (more = false → d = operandsP l))
  case atStart => exact ⟨l, true, [], rfl, rfl, ⟨rfl, .inl ⟨rfl, rfl⟩⟩, Below.refl _ _, by simp, fun _ => ⟨by simp, by omega, by simp⟩, fun h => by cases h⟩
  case round =>
    obtain ⟨r, more, d, rfl, rfl, hown, hbw, hlen, hmt, hmf⟩ := hrel
    cases more
    · have hd := hmf rfl
      clear hmf hmt
      go_wp2
      go_ret
      exact ⟨_, rfl, hd ▸ hown, hbw⟩
    · obtain ⟨g1, g2, g3⟩ := hmt rfl
      obtain ⟨g', rfl⟩ : ∃ g', gk = g' + 1 := ⟨gk - 1, by omega⟩
      have hC := cut_any (bs r) ⟨#[44]⟩ (asc1 44 (by decide)) (by decide) (by rw [bs_size]; omega)
      rw [bs_data] at hC
      have hT : ∀ w, Calls Tryz.prog 20 #[.string (bs (cutB [44].contains r))] w fun e w' => e = .returned (.string (bs (trimP (cutB [44].contains r)))) ∧ Below w.heap.size w w' := fun w => by
        have := trim_any (bs (cutB [44].contains r)) w (by rw [bs_size]; have := cutB_len [44].contains r; omega)
        rwa [bs_data] at this
      have hC : Hid (∀ w, Calls Tryz.prog 19 #[.string (bs r), .string { data := #[44] }] w fun e w' => e = .returned (.tuple #[.string (bs (cutB [44].contains r)), .string (bs (cutR [44].contains r)), .bool (cutH [44].contains r)]) ∧ Below w.heap.size w w') := hC
      have hL := cutR_len [44].contains r
      have hdl : d.length ≤ 1000000 := by omega
      have hst : operandsP r = trimP (cutB [44].contains r) :: (if cutH [44].contains r then operandsP (cutR [44].contains r) else []) := by
        cases h : cutH [44].contains r
        · obtain ⟨e1, e2⟩ := parts_miss 44 r h
          simp [operandsP, e1, e2]
        · simp [operandsP, parts_hit 44 r h]
      generalize cutH [44].contains r = H at hC hst hL
      generalize cutR [44].contains r = R at hC hst hL
      generalize trimP (cutB [44].contains r) = A at hT hst
      clear hmt hmf
      go_wp2_with (first | (go_at_call 19; refine (hC.out _).mono ?_; rintro e w1 ⟨rfl, hb1⟩) | (go_at_call 20; refine (hT _).mono ?_; rintro e w2 ⟨rfl, hb2⟩) | (at_builtin; refine wpList_append_own _ rfl _ _ 22 rfl w.heap.size 9 i0 (.string ⟨#[]⟩) 1 16 Tryz.underlying22 hi0 hz0 hz1 hz2 rfl (by decide) _ d.length _ rfl ((own_call (own_call hown hb1) hb2).alloc _) ⟨w2.heap.size, 0, none⟩ 1 1 [.string (bs A)] rfl rfl (cell_new1 _ _ _) (by intro u hu; simp at hu; subst hu; rfl) (by unfold maxLen; omega) (by omega) (by have := hb1.size; have := hb2.size; have := hbw.size; simp; omega) ?_; intro v3 w3 hown3 hgrow3 hnil3))
      have q1 := hb1.size
      have q2 := hb2.size
      have q3 := hbw.size
      have hX := own_call (own_call hown hb1) hb2
      go_roundg g'
      case measure => omega
      case rel =>
        refine ⟨R, H, d ++ [A], rfl, rfl, by rw [List.length_append, strs_snoc]; exact hown3, ?_, ?_, fun h => ?_, fun h => ?_⟩
        · exact (((hbw.trans (hb1.mono q3)).trans (hb2.mono (by omega))).alloc (by omega) _).grown hgrow3 (by simp; omega) (fun j hj => (own_lt hX _ hj).1)
        · simp; omega
        · subst h
          have := hL.2 rfl
          refine ⟨by simp; omega, by omega, ?_⟩
          rw [← g3, hst]; simp
        · subst h
          rw [← g3, hst]; simp
end Go.Proofs.YtmldlkcgaepaaaaGreatDoor
