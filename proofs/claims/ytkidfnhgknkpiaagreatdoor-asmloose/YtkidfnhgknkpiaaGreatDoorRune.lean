/-
  A rune of 128 or more stands in no text of ASCII bytes: strings.IndexRune and strings.ContainsRune there; and what the range over a text decodes.
-/
import Derived.Test.YtkidfnhgknkpiaaGreatDoorVrs
import Derived.Laws.RangeAny
import Derived.Deep.LoopGhost
namespace Go.Proofs.YtkidfnhgknkpiaaGreatDoor
open Go.ChangeShapes Go.WideShapes Go.ChangeAt Go.RowKit

theorem decode_valid (s : ByteArray) (pos : Nat) : Utf8.valid ((Utf8.decode s pos).1 : Nat) = true := by
  have hb : ∀ k, (s.get! (pos + k)).toNat < 256 := fun k => (s.get! (pos + k)).toNat_lt
  have h0 := hb 0; have h1 := hb 1; have h2 := hb 2; have h3 := hb 3
  simp only [Utf8.decode]
  repeat' split
  all_goals simp_all [Utf8.runeError, Utf8.valid]
  all_goals omega
theorem decode_wide (s : ByteArray) (pos : Nat) (h : pos < s.size) (ha : 128 ≤ (s[pos]'h).toNat) :
    pos + (Utf8.decode s pos).2 ≤ s.size ∧ ∀ j (hj : j < s.size), pos ≤ j → j < pos + (Utf8.decode s pos).2 → 128 ≤ (s[j]'hj).toNat := by
  have hg : ∀ k (hk : pos + k < s.size), s.get! (pos + k) = s[pos + k]'hk := fun k hk => get_at s (pos + k) hk
  have e0 := get_at s pos h
  have hn : ¬ (s[pos]'h).toNat < 128 := by omega
  have key : ∀ n, (∀ k, k < n → ∃ hk : pos + k < s.size, 128 ≤ (s[pos + k]'hk).toNat) → 1 ≤ n → pos + n ≤ s.size ∧ ∀ j (hj : j < s.size), pos ≤ j → j < pos + n → 128 ≤ (s[j]'hj).toNat := fun n hk h1 => by
    refine ⟨by obtain ⟨q, _⟩ := hk (n - 1) (by omega); omega, fun j hj a b => ?_⟩
    obtain ⟨q, hq⟩ := hk (j - pos) (by omega)
    have : pos + (j - pos) = j := by omega
    simpa [this] using hq
  have cont : ∀ k, (decide (pos + k < s.size) && (s.get! (pos + k)).toNat / 64 == 2) = true → ∃ hk : pos + k < s.size, 128 ≤ (s[pos + k]'hk).toNat := fun k hk => by
    simp only [Bool.and_eq_true, decide_eq_true_eq, beq_iff_eq] at hk
    refine ⟨hk.1, ?_⟩
    rw [hg k hk.1] at hk
    omega
  have z : ∃ hk : pos + 0 < s.size, 128 ≤ (s[pos + 0]'hk).toNat := ⟨h, ha⟩
  simp only [Utf8.decode, e0, hn, if_false]
  split
  · rename_i c; simp only [Bool.and_eq_true] at c
    split
    · refine key 2 (fun k hk => ?_) (by omega)
      rcases (show k = 0 ∨ k = 1 by omega) with rfl | rfl
      · exact z
      · exact cont 1 (by simp only [Bool.and_eq_true]; exact c.2)
    · exact key 1 (fun k hk => by obtain rfl : k = 0 := by omega
                                  exact z) (by omega)
  · split
    · rename_i c; simp only [Bool.and_eq_true] at c
      split
      · refine key 3 (fun k hk => ?_) (by omega)
        rcases (show k = 0 ∨ k = 1 ∨ k = 2 by omega) with rfl | rfl | rfl
        · exact z
        · exact cont 1 (by simp only [Bool.and_eq_true]; exact c.1.2)
        · exact cont 2 (by simp only [Bool.and_eq_true]; exact c.2)
      · exact key 1 (fun k hk => by obtain rfl : k = 0 := by omega
                                    exact z) (by omega)
    · split
      · rename_i c; simp only [Bool.and_eq_true] at c
        split
        · refine key 4 (fun k hk => ?_) (by omega)
          rcases (show k = 0 ∨ k = 1 ∨ k = 2 ∨ k = 3 by omega) with rfl | rfl | rfl | rfl
          · exact z
          · exact cont 1 (by simp only [Bool.and_eq_true]; exact c.1.1.2)
          · exact cont 2 (by simp only [Bool.and_eq_true]; exact c.1.2)
          · exact cont 3 (by simp only [Bool.and_eq_true]; exact c.2)
        · exact key 1 (fun k hk => by obtain rfl : k = 0 := by omega
                                      exact z) (by omega)
      · exact key 1 (fun k hk => by obtain rfl : k = 0 := by omega
                                    exact z) (by omega)
set_option maxRecDepth 100000 in
theorem idx_err (s : ByteArray) (hs : ∀ j (h : j < s.size), (s[j]'h).toNat < 128) (hm : s.size ≤ 100) (w : World) :
    Calls Tryz.prog 111 #[.string s, .int .i32 65533] w fun e w' => e = .returned (.int .i64 (-1)) ∧ Below w.heap.size w w' := by
  go_enter Tryz.func111, Tryz.ntmps111
  go_wp2
  go_loopg [] 100 (fun gf wx => ∃ pos : Nat, wx.heap[w.heap.size]? = some (.stringIter s pos) ∧ Below w.heap.size w wx ∧ s.size ≤ pos + gf)
  case atStart => exact ⟨0, World.iter_heap w s 0, (Below.refl _ w).alloc (Nat.le_refl _) _, by omega⟩
  case round =>
    obtain ⟨pos, hit, hbw, hfu⟩ := hrel
    by_cases hps : pos < s.size
    · obtain ⟨g', rfl⟩ : ∃ g', gk = g' + 1 := ⟨gk - 1, by omega⟩
      have ha := hs pos hps
      have hnx : ∀ ty, (Instr.next (.pointer (some ⟨w.heap.size, 0, none⟩)) true ty).run Tryz.prog wr = _ := fun ty => Lib.run_next_ascii_at wr w.heap.size s pos ty hit hps ha
      have hne : (((s[pos]'hps).toNat : Int) == 65533) = false := beq_eq_false_iff_ne.2 (by omega)
      have hit2 := Lib.iterAt_heap wr w.heap.size s pos (pos + 1) hit
      have hbw2 := Lib.below_iterAt hbw (k := w.heap.size) (Nat.le_refl _) s (pos + 1)
      obtain ⟨W, hWd⟩ : ∃ W, wr.iterAt w.heap.size s (pos + 1) = W := ⟨_, rfl⟩
      rw [hWd] at hnx hit2 hbw2
      clear hs hit hbw hWd
      go_wp2
      go_roundg g'
      case measure => omega
      case rel => exact ⟨pos + 1, hit2, hbw2, by omega⟩
    · have hnx : ∀ ty, (Instr.next (.pointer (some ⟨w.heap.size, 0, none⟩)) true ty).run Tryz.prog wr = _ := fun ty => Lib.run_next_end_at wr w.heap.size s pos ty hit hps
      clear hs
      go_wp2
      go_ret
      exact ⟨rfl, hbw⟩
theorem conv_rune (r : Int) (w : World) : (convert 21 9 (.int .i32 r)).run Tryz.prog w = .ok (.string (Utf8.encode r)) w := by
  simp [convert, run_underlying Tryz.underlying21, run_underlying Tryz.underlying9, Conv.intToString]
theorem enc_high (r : Int) (h0 : 128 ≤ r) : ∃ n, 1 ≤ n ∧ n ≤ 3 ∧ (Utf8.encode r).size = n + 1 ∧ ∀ h : n < (Utf8.encode r).size, 128 ≤ ((Utf8.encode r)[n]'h).toNat := by
  obtain ⟨c, hcd⟩ : ∃ c, c = (if Utf8.valid r then r.toNat else Utf8.runeError) := ⟨_, rfl⟩
  have hc : ¬ c < 128 := by rw [hcd]; split <;> (try unfold Utf8.runeError) <;> omega
  have e : Utf8.encode r = if c < 0x800 then ⟨#[UInt8.ofNat (0xC0 + c / 64), UInt8.ofNat (0x80 + c % 64)]⟩
    else if c < 0x10000 then ⟨#[UInt8.ofNat (0xE0 + c / 4096), UInt8.ofNat (0x80 + c / 64 % 64), UInt8.ofNat (0x80 + c % 64)]⟩
    else ⟨#[UInt8.ofNat (0xF0 + c / 262144), UInt8.ofNat (0x80 + c / 4096 % 64), UInt8.ofNat (0x80 + c / 64 % 64), UInt8.ofNat (0x80 + c % 64)]⟩ := by
    unfold Utf8.encode
    simp only [← hcd, hc, if_false]
  have hb : 128 ≤ (UInt8.ofNat (128 + c % 64)).toNat := by
    have : (UInt8.ofNat (128 + c % 64)).toNat = 128 + c % 64 := by simp; omega
    omega
  rw [e]
  split
  · exact ⟨1, by omega, by omega, rfl, fun _ => hb⟩
  · split
    · exact ⟨2, by omega, by omega, rfl, fun _ => hb⟩
    · exact ⟨3, by omega, by omega, rfl, fun _ => hb⟩
theorem idx_none (l : List UInt8) (c : UInt8) (h : ∀ x ∈ l, x ≠ c) : Lib.indexByte l c = -1 := by
  induction l with
  | nil => rfl
  | cons x r ih =>
    have hx := h x (by simp)
    have := ih fun y hy => h y (by simp [hy])
    simp [Lib.indexByte, this, hx]
theorem ascii_mem {s : ByteArray} (hs : ∀ j (h : j < s.size), (s[j]'h).toNat < 128) (x : UInt8) (hx : x ∈ s.data.toList) : x.toNat < 128 := by
  obtain ⟨j, hj, rfl⟩ := List.mem_iff_getElem.1 hx
  exact hs j (by simpa using hj)
theorem extract_mem (s : ByteArray) (a b : Nat) (x : UInt8) (hx : x ∈ (s.extract a b).data.toList) : x ∈ s.data.toList := by
  rw [ByteArray.data_extract, Array.toList_extract] at hx
  exact List.mem_of_mem_drop (List.mem_of_mem_take hx)
set_option maxRecDepth 100000 in
theorem idx_high (s : ByteArray) (hs : ∀ j (h : j < s.size), (s[j]'h).toNat < 128) (r : Int) (h0 : 128 ≤ r) (hv : Utf8.valid r = true) (hne : r ≠ 65533) (w : World) :
    Calls Tryz.prog 111 #[.string s, .int .i32 r] w fun e w' => e = .returned (.int .i64 (-1)) ∧ Below w.heap.size w w' := by
  have hv2 : Lib.validRune r = true := by unfold Lib.validRune; unfold Utf8.valid at hv; simp only [Bool.or_eq_true, Bool.and_eq_true, decide_eq_true_eq] at hv ⊢; omega
  have g1 : decide (0 ≤ r) = true := by simp; omega
  have g2 : decide (r < 128) = false := by simp; omega
  have g3 : (r == 65533) = false := by simpa using hne
  have VR := Tryz.utf8_ValidRune r
  rw [hv2] at VR
  have hcv := conv_rune r
  obtain ⟨n, n1, n3, hn, hlast⟩ := enc_high r h0
  generalize Utf8.encode r = rs at hcv hn hlast
  have hrs : n < rs.size := by omega
  have hlast := hlast hrs
  have hl2 := (rs[n]'hrs).toNat_lt
  have IX : Hid (∀ a b : Nat, Lib.indexByte (s.extract a b).data.toList ((rs[n]'hrs).toNat : Int).toNat.toUInt8 = -1) := fun a b => idx_none _ _ fun x hx => by
    have := ascii_mem hs x (extract_mem s a b x hx)
    intro e
    rw [e] at this
    simp at this
    omega
  have HS : Hid (∀ j (h : j < s.size), (s[j]'h).toNat < 128) := hs
  clear hs hv hv2 hne
  go_enter Tryz.func111, Tryz.ntmps111
  go_wp2_with (go_at_call 134; refine (VR _).mono ?_; rintro e w1 ⟨rfl, hw1⟩; rw [hw1]; clear hw1)
  refine wp_scope_straight ?_
  go_wp2
  go_loopg [9] 0 (fun _ s9 wx => s9 = .int .i64 n ∧ wx = w)
  case atStart => exact ⟨by go_num, rfl⟩
  case round =>
    obtain ⟨rfl, hwr⟩ := hrel
    subst hwr
    clear hn
    by_cases hlt : n < s.size
    · have hsn := HS.out n hlt
      have hne2 : (((s[n]'hlt).toNat : Int) != ((rs[n]'hrs).toNat : Int)) = true := by simp; omega
      have hb1 : (n : Int) + 1 ≤ s.size := by omega
      have hb2 : IntKind.i64.wrap ((n : Int) + 1) = ((n + 1 : Nat) : Int) := by rw [IntKind.wrap_i64]; omega
      have hsl : ∀ W, (Instr.slice 9 (.string s) (some (.int .i64 ((n : Int) + 1))) none none).run Tryz.prog W = .ok (.string (s.extract (n + 1) s.size)) W := fun W => run_slice_string_l W 9 s Tryz.underlying9 .i64 _ (by omega) (by omega)
      go_wp2
      refine wp_scope_straight ?_
      go_wp2
      go_quiet (fail)
      go_wp2
      go_quiet ((go_at_call 133; exact quiet_of2 ((Tryz.strings_IndexByte _ _ _).mono fun _ _ h => ⟨h.1, 0, by rw [World.drewN_zero]; exact h.2⟩)))
      rw [IX.out]
      go_wp2
      simp only [Exit.noGoto, Exit.inBlock, Exit.then]
      go_ret
      exact ⟨rfl, bdrewN (Below.refl _ _) _⟩
    · have hd : decide ((n : Int) < s.size) = false := by simp; omega
      go_wp2
      simp only [Exit.noGoto, Exit.inBlock]
      go_ret
      exact ⟨rfl, Below.refl _ _⟩
theorem idxR_any (s : ByteArray) (hs : ∀ j (h : j < s.size), (s[j]'h).toNat < 128) (hm : s.size ≤ 100) (r : Int) (h0 : 128 ≤ r) (hv : Utf8.valid r = true) (w : World) :
    Calls Tryz.prog 111 #[.string s, .int .i32 r] w fun e w' => e = .returned (.int .i64 (-1)) ∧ Below w.heap.size w w' := by
  by_cases e : r = 65533
  · subst e; exact idx_err s hs hm w
  · exact idx_high s hs r h0 hv e w
theorem contains_high (s : ByteArray) (hs : ∀ j (h : j < s.size), (s[j]'h).toNat < 128) (hm : s.size ≤ 100) (r : Int) (h0 : 128 ≤ r) (hv : Utf8.valid r = true) (w : World) :
    Calls Tryz.prog 91 #[.string s, .int .i32 r] w fun e w' => e = .returned (.bool false) ∧ Below w.heap.size w w' := by
  have hT := idxR_any s hs hm r h0 hv w
  clear hs h0 hv
  go_enter Tryz.func91, Tryz.ntmps91
  go_wp2_with (go_at_call 111; refine hT.mono ?_; rintro e w1 ⟨rfl, hb⟩)
  go_ret
  exact ⟨rfl, hb⟩
theorem idx_byte (c : UInt8) : ∀ l : List UInt8, decide (0 ≤ Lib.indexByte l c) = l.contains c
  | [] => rfl
  | x :: r => by
    have ih := idx_byte c r
    by_cases hx : x = c
    · simp [Lib.indexByte, hx]
    · have hm : Lib.indexByte r c = -1 ∨ 0 ≤ Lib.indexByte r c := by
        cases h : r.contains c
        · rw [h, decide_eq_false_iff_not] at ih
          exact .inl (idx_none r c fun y hy e => by rw [e] at hy; simp [hy] at h)
        · rw [h, decide_eq_true_eq] at ih
          exact .inr ih
      rw [List.contains_cons, ← ih]
      have hx2 : (c == x) = false := by simpa using fun e => hx e.symm
      rw [hx2, Bool.false_or]
      rcases hm with hm | hm
      · simp [Lib.indexByte, hx, hm]
      · have : (Lib.indexByte r c == -1) = false := by simp; omega
        simp [Lib.indexByte, hx]
        omega
theorem contains_low (s : ByteArray) (c : UInt8) (hc : c.toNat < 128) (w : World) :
    Calls Tryz.prog 91 #[.string s, .int .i32 c.toNat] w fun e w' => e = .returned (.bool (s.data.toList.contains c)) ∧ Below w.heap.size w w' := by
  have := Tryz.strings_ContainsRune_ascii s c.toNat w (by omega) (by omega)
  rw [idx_byte] at this
  refine this.mono fun e w' h => ⟨?_, h.2 ▸ Below.refl _ _⟩
  rw [h.1]; simp
end Go.Proofs.YtkidfnhgknkpiaaGreatDoor
