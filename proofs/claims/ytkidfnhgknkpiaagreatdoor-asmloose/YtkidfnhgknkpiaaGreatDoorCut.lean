/-
  Layer 6's cut, the program's: it parts every text at the first of some ASCII bytes.
-/
import Derived.Test.YtkidfnhgknkpiaaGreatDoorRune
import Derived.Test.YtkidfnhgknkpiaaGreatDoorTxt
namespace Go.Proofs.YtkidfnhgknkpiaaGreatDoor
set_option linter.unusedVariables false
set_option linter.unusedSimpArgs false
open Go.ChangeShapes Go.WideShapes Go.ChangeAt Go.RowKit

theorem cut_hit (p : UInt8 → Bool) : ∀ (l : Bs) (k : Nat) (h : k < l.length), p l[k] = true → (∀ j (hj : j < l.length), j < k → p l[j] = false) → cutB p l = l.take k ∧ cutR p l = l.drop (k + 1) ∧ cutH p l = true
  | [], k, h, _, _ => absurd h (by simp)
  | x :: r, 0, _, hp, _ => by
    have hp : p x = true := hp
    simp [cutB, cutR, cutH, hp]
  | x :: r, k + 1, h, hp, hn => by
    have hx : p x = false := hn 0 (by simp) (by omega)
    have ih := cut_hit p r k (by simpa using h) (by simpa using hp) (fun j hj hk => by have := hn (j + 1) (by simpa using hj) (by omega); simpa using this)
    simp only [cutB, cutR, cutH] at ih ⊢
    simp [hx, ih]
theorem cut_miss (p : UInt8 → Bool) : ∀ (l : Bs), (∀ j (hj : j < l.length), p l[j] = false) → cutB p l = l ∧ cutR p l = [] ∧ cutH p l = false
  | [], _ => ⟨rfl, rfl, rfl⟩
  | x :: r, hn => by
    have hx : p x = false := hn 0 (by simp)
    have ih := cut_miss p r (fun j hj => by have := hn (j + 1) (by simpa using hj); simpa using this)
    simp only [cutB, cutR, cutH] at ih ⊢
    simp [hx, ih]
theorem bs_take (s : ByteArray) (k : Nat) : s.extract 0 k = bs (s.data.toList.take k) := by
  rw [← bs_of (s.extract 0 k), ByteArray.data_extract, Array.toList_extract]; simp
theorem bs_drop (s : ByteArray) (k : Nat) : s.extract k s.size = bs (s.data.toList.drop k) := by
  rw [← bs_of (s.extract k s.size), ByteArray.data_extract, Array.toList_extract]
  congr 1
  rw [List.extract_eq_take_drop, List.take_of_length_le]
  rw [List.length_drop]; simp only [ByteArray.size, Array.length_toList]; omega
theorem ret_cut {a a' b b' : ByteArray} {c c' : Bool} (h1 : a = a') (h2 : b = b') (h3 : c = c') : Ending.returned (.tuple #[.string a, .string b, .bool c]) = .returned (.tuple #[.string a', .string b', .bool c']) := by rw [h1, h2, h3]
theorem cut_any (s at_ : ByteArray) (hat : ∀ j (h : j < at_.size), (at_[j]'h).toNat < 128) (hm : at_.size ≤ 100) (hs : s.size ≤ 9223372036854775806) (w : World) :
    Calls Tryz.prog 60 #[.string s, .string at_] w fun e w' => e = .returned (.tuple #[.string (bs (cutB at_.data.toList.contains s.data.toList)), .string (bs (cutR at_.data.toList.contains s.data.toList)), .bool (cutH at_.data.toList.contains s.data.toList)]) ∧ Below w.heap.size w w' := by
  have hln : s.data.toList.length = s.size := by simp only [ByteArray.size, Array.length_toList]
  have hel : ∀ j (h : j < s.size), s.data.toList[j]'(by omega) = s[j]'h := fun j h => by simp [ByteArray.getElem_eq_getElem_data]
  have hhi : ∀ c : UInt8, 128 ≤ c.toNat → at_.data.toList.contains c = false := fun c hc => by
    cases h : at_.data.toList.contains c
    · rfl
    · have := ascii_mem hat c (by simpa using h); omega
  have HT : Hid (∀ j (h : j < at_.size), (at_[j]'h).toNat < 128) := hat
  clear hat
  go_enter Tryz.func60, Tryz.ntmps60
  go_wp2
  go_loopg [] s.size (fun gf wx => ∃ pos : Nat, pos ≤ s.size ∧ s.size ≤ pos + gf ∧ wx.heap[w.heap.size]? = some (.stringIter s pos) ∧ Below w.heap.size w wx ∧ ∀ j (h : j < s.size), j < pos → at_.data.toList.contains (s[j]'h) = false)
  case atStart => exact ⟨0, Nat.zero_le _, by omega, World.iter_heap w s 0, (Below.refl _ w).alloc (Nat.le_refl _) _, fun j _ h => by omega⟩
  case round =>
    obtain ⟨pos, hp1, hp2, hit, hbw, hno⟩ := hrel
    by_cases hlt : pos < s.size
    · obtain ⟨g', rfl⟩ : ∃ g', gk = g' + 1 := ⟨gk - 1, by omega⟩
      have hltW : w.heap.size < wr.heap.size := (Array.getElem?_eq_some_iff.1 hit).1
      by_cases ha : (s[pos]'hlt).toNat < 128
      · have hnx : ∀ ty, (Instr.next (.pointer (some ⟨w.heap.size, 0, none⟩)) true ty).run Tryz.prog wr = _ := fun ty => Lib.run_next_ascii_at wr w.heap.size s pos ty hit hlt ha
        have hit2 := Lib.iterAt_heap wr w.heap.size s pos (pos + 1) hit
        have hbw2 := Lib.below_iterAt hbw (k := w.heap.size) (Nat.le_refl _) s (pos + 1)
        have hsz2 := Lib.iterAt_size wr w.heap.size s (pos + 1)
        obtain ⟨W, hWd⟩ : ∃ W, wr.iterAt w.heap.size s (pos + 1) = W := ⟨_, rfl⟩
        rw [hWd] at hnx hit2 hbw2 hsz2
        have CR := contains_low at_ (s[pos]'hlt) ha W
        obtain ⟨c, hc⟩ : ∃ c, c = (s[pos]'hlt) := ⟨_, rfl⟩
        rw [← hc] at hnx CR
        have HN : Hid (∀ j (h : j < s.size), j < pos → at_.data.toList.contains (s[j]'h) = false) := hno
        have HC : Hid (c = (s[pos]'hlt)) := hc
        clear hit hbw hWd hno hc ha
        cases hcc : at_.data.toList.contains c
        · rw [hcc] at CR
          go_wp2_with (go_at_call 91; refine CR.mono ?_; rintro e W' ⟨rfl, hbc⟩)
          go_roundg g'
          case measure => omega
          case rel =>
            refine ⟨pos + 1, by omega, by omega, (hbc.block _ (by omega)).trans hit2, hbw2.trans (hbc.mono (by omega)), fun j h hj => ?_⟩
            by_cases e : j = pos
            · subst e; rw [← HC.out]; exact hcc
            · exact HN.out j h (by omega)
        · rw [hcc] at CR
          obtain ⟨h1, h2, h3⟩ := cut_hit at_.data.toList.contains s.data.toList pos (by omega) (by rw [hel pos hlt, ← HC.out]; exact hcc) (fun j hj hk => by rw [hel j (by omega)]; exact HN.out j (by omega) hk)
          have H1 : Hid _ := h1
          have H2 : Hid _ := h2
          have H3 : Hid _ := h3
          clear h1 h2 h3
          have hw1 : IntKind.i64.wrap ((pos : Int) + 1) = (pos : Int) + 1 := by rw [IntKind.wrap_i64]; omega
          have hsl : ∀ W, (Instr.slice 9 (.string s) (some (.int .i64 ((pos : Int) + 1))) none none).run Tryz.prog W = .ok (.string (s.extract (pos + 1) s.size)) W := fun W => run_slice_string_l W 9 s Tryz.underlying9 .i64 _ (by omega) (by omega)
          have hsh : ∀ W, (Instr.slice 9 (.string s) none (some (.int .i64 (pos : Int))) none).run Tryz.prog W = .ok (.string (s.extract 0 pos)) W := fun W => run_slice_string_h W 9 s Tryz.underlying9 .i64 _ (by omega) (by omega)
          go_wp2_with (go_at_call 91; refine CR.mono ?_; rintro e W' ⟨rfl, hbc⟩)
          go_quiet (fail)
          go_wp2
          go_ret3
          exact ⟨ret_cut (by rw [H1.out, bs_take]) (by rw [H2.out, bs_drop]) (by rw [H3.out]), bdrewN (hbw2.trans (hbc.mono (by omega))) _⟩
      · have hnx : ∀ ty, (Instr.next (.pointer (some ⟨w.heap.size, 0, none⟩)) true ty).run Tryz.prog wr = _ := fun ty => Lib.run_next_any_at wr w.heap.size s pos ty hit hlt
        obtain ⟨hd1, hd2⟩ := decode_high s pos hlt (by omega)
        obtain ⟨hd3, hd4⟩ := decode_wide s pos hlt (by omega)
        have hdv := decode_valid s pos
        have hdl := decode_le s pos
        obtain ⟨R, hR⟩ : ∃ R, (Utf8.decode s pos).1 = R := ⟨_, rfl⟩
        obtain ⟨K, hK⟩ : ∃ K, (Utf8.decode s pos).2 = K := ⟨_, rfl⟩
        rw [hR] at hnx hd1 hdv hdl
        rw [hK] at hnx hd2 hd3 hd4
        have hit2 := Lib.iterAt_heap wr w.heap.size s pos (pos + K) hit
        have hbw2 := Lib.below_iterAt hbw (k := w.heap.size) (Nat.le_refl _) s (pos + K)
        have hsz2 := Lib.iterAt_size wr w.heap.size s (pos + K)
        obtain ⟨W, hWd⟩ : ∃ W, wr.iterAt w.heap.size s (pos + K) = W := ⟨_, rfl⟩
        rw [hWd] at hnx hit2 hbw2 hsz2
        have CR := contains_high at_ HT.out hm R (by omega) hdv W
        have HN : Hid (∀ j (h : j < s.size), j < pos → at_.data.toList.contains (s[j]'h) = false) := hno
        have HD : Hid (∀ j (hj : j < s.size), pos ≤ j → j < pos + K → 128 ≤ (s[j]'hj).toNat) := hd4
        have HH : Hid (∀ c : UInt8, 128 ≤ c.toNat → at_.data.toList.contains c = false) := hhi
        clear hit hbw hWd hno hd4 hhi hel hR hK ha
        go_wp2_with (go_at_call 91; refine CR.mono ?_; rintro e W' ⟨rfl, hbc⟩)
        go_roundg g'
        case measure => omega
        case rel =>
          refine ⟨pos + K, by omega, by omega, (hbc.block _ (by omega)).trans hit2, hbw2.trans (hbc.mono (by omega)), fun j h hj => ?_⟩
          by_cases e : j < pos
          · exact HN.out j h e
          · exact HH.out _ (HD.out j h (by omega) hj)
    · obtain rfl : pos = s.size := by omega
      obtain ⟨h1, h2, h3⟩ := cut_miss at_.data.toList.contains s.data.toList (fun j hj => by rw [hel j (by omega)]; exact hno j (by omega) (by omega))
      have H1 : Hid _ := h1
      have H2 : Hid _ := h2
      have H3 : Hid _ := h3
      have hnx : ∀ ty, (Instr.next (.pointer (some ⟨w.heap.size, 0, none⟩)) true ty).run Tryz.prog wr = _ := fun ty => Lib.run_next_end_at wr w.heap.size s s.size ty hit hlt
      clear h1 h2 h3 hno hhi hel
      go_wp2
      go_ret3
      exact ⟨ret_cut (by rw [H1.out, bs_of]) (by rw [H2.out]; rfl) (by rw [H3.out]), hbw⟩
end Go.Proofs.YtkidfnhgknkpiaaGreatDoor
