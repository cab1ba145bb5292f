/-
  The document's layer 6: blanks, lines without their remarks.
-/
import Derived.Test.YtmldlkcgaepaaaaGreatDoorMBkA
namespace Go.Proofs.YtmldlkcgaepaaaaGreatDoor
set_option linter.unusedVariables false
set_option linter.unusedSimpArgs false
open Go.ChangeShapes Go.WideShapes Go.ChangeAt Go.RowKit

theorem cut_str0 (t : ByteArray) (f i : Nat) : t.extract f i = bs ((t.data.toList.drop f).take (i - f)) := by
  apply ByteArray.ext
  apply Array.ext'
  simp [bs, ByteArray.data_extract, List.extract_eq_take_drop]
theorem rdrop_cons (p : UInt8 → Bool) (x : UInt8) (t : Bs) : ((x :: t).reverse.dropWhile p).reverse = if (t.reverse.dropWhile p) = [] then (if p x then [] else [x]) else x :: (t.reverse.dropWhile p).reverse := by
  rw [List.reverse_cons, List.dropWhile_append]
  by_cases h : t.reverse.dropWhile p = []
  · rw [if_pos h]
    cases hp : p x <;> simp [h, hp]
  · rw [if_neg h]
    simp [h]
theorem drop_comm (p : UInt8 → Bool) : ∀ l : Bs, ((l.reverse.dropWhile p).reverse).dropWhile p = (((l.dropWhile p).reverse).dropWhile p).reverse
  | [] => rfl
  | x :: t => by
    have ih := drop_comm p t
    rw [rdrop_cons]
    cases hp : p x with
    | true =>
      rw [List.dropWhile_cons, if_pos hp, ← ih]
      by_cases h : t.reverse.dropWhile p = []
      · rw [if_pos h, h]; simp
      · rw [if_neg h, List.dropWhile_cons, if_pos hp]
    | false =>
      rw [List.dropWhile_cons, hp]
      simp only [Bool.false_eq_true, if_false]
      rw [rdrop_cons, hp]
      by_cases h : t.reverse.dropWhile p = []
      · simp [h, hp]
      · simp [h, hp]
theorem rblank_any (c : UInt8) (w : World) : Calls Tryz.prog 50 #[.int .u8 c.toNat] w fun e w' => e = .returned (.bool (blk c)) ∧ w' = w := by
  have key : blk c = (((c.toNat : Int) == 32) || ((c.toNat : Int) == 9) || ((c.toNat : Int) == 13)) := by
    have h1 : ∀ (d : UInt8) (n : Int), (d.toNat : Int) = n → ((c.toNat : Int) == n) = (c == d) := fun d n h => by
      rw [Bool.eq_iff_iff, beq_iff_eq, beq_iff_eq]
      exact ⟨fun h2 => UInt8.toNat_inj.1 (by omega), fun h2 => by rw [h2]; exact h⟩
    rw [h1 32 32 rfl, h1 9 9 rfl, h1 13 13 rfl]; rfl
  rw [key]
  generalize (c.toNat : Int) = x
  clear key
  cases a : (x == 32) <;> cases b : (x == 9) <;> cases d : (x == 13)
  all_goals
    go_enter Tryz.func50, Tryz.ntmps50
    go_wp2
    go_ret
    exact ⟨rfl, rfl⟩

theorem bs_cut (l : Bs) (f i : Nat) : (bs l).extract f i = bs ((l.drop f).take (i - f)) := by
  have := cut_str0 (bs l) f i
  rw [bs_data] at this
  exact this
theorem trim_two (l : Bs) : trimP l = (((l.dropWhile blk).reverse).dropWhile blk).reverse := by rw [trimP_eq]; exact drop_comm blk l
set_option maxHeartbeats 1000000 in
set_option maxRecDepth 20000 in
theorem rtrim_any (l : Bs) (w : World) (hl : l.length ≤ 9223372036854775807) : Calls Tryz.prog 26 #[.string (bs l)] w fun e w' => e = .returned (.string (bs (trimP l))) ∧ w' = w := by
  generalize hR : trimP l = R
  have HR : Hid ((((l.dropWhile blk).reverse).dropWhile blk).reverse = R) := (trim_two l).symm.trans hR
  clear hR
  go_enter Tryz.func26, Tryz.ntmps26
  go_wp2
  go_loopw [0] (fun s wr => ∃ r : Bs, s = .string (bs r) ∧ r.dropWhile blk = l.dropWhile blk ∧ r.length ≤ l.length ∧ wr = w) (fun s _ => match s with | .string b => b.size | _ => 0)
  case atStart => exact ⟨l, rfl, rfl, Nat.le_refl _, rfl⟩
  case round =>
    obtain ⟨r, rfl, hr, hrl, rfl⟩ := hrel
    cases r with
    | nil =>
      have hR0 : R = [] := by rw [← HR.out, ← hr]; rfl
      subst hR0
      clear hr hrl HR
      go_wp2
      go_loopw [0] (fun s wx => s = .string ⟨#[]⟩ ∧ wx = wr) (fun _ _ => 0)
      case atStart => exact ⟨rfl, rfl⟩
      case round =>
        obtain ⟨rfl, rfl⟩ := hrel
        go_wp2
        go_ret
        exact ⟨rfl, rfl⟩
    | cons c t =>
      have hz : (bs (c :: t)).size = t.length + 1 := bs_size _
      have BA : Hid (∀ X, Calls Tryz.prog 50 #[.int .u8 c.toNat] X _) := rblank_any c
      cases hb : blk c with
      | true =>
        rw [hb] at BA
        have hcut : (bs (c :: t)).extract 1 (t.length + 1) = bs t := by
          rw [bs_cut]; simp
        rw [List.dropWhile_cons, if_pos hb] at hr
        clear hb
        go_wp2_with (go_at_call 50; refine (BA.out _).mono ?_; rintro e wz ⟨rfl, hw⟩; obtain rfl := hw.symm; clear hw)
        refine ⟨⟨t, rfl, hr, by simp at hrl; omega, trivial⟩, ?_⟩
        show (bs t).size < (bs (c :: t)).size
        rw [hz, bs_size]; omega
      | false =>
        rw [hb] at BA
        have hm : c :: t = l.dropWhile blk := by rw [← hr, List.dropWhile_cons, hb]; simp
        have HM : Hid ((((c :: t).reverse).dropWhile blk).reverse = R) := by show _ = R; rw [hm]; exact HR.out
        have hml : (c :: t).length ≤ 9223372036854775807 := Nat.le_trans hrl hl
        have HMl : Hid ((c :: t).length ≤ 9223372036854775807) := hml
        clear hr hrl hm hb hml HR
        go_wp2_with (go_at_call 50; refine (BA.out _).mono ?_; rintro e wz ⟨rfl, hw⟩; obtain rfl := hw.symm; clear hw)
        go_loopw [0] (fun s wx => ∃ r : Bs, s = .string (bs r) ∧ (r.reverse.dropWhile blk).reverse = R ∧ r.length ≤ 9223372036854775807 ∧ wx = wr) (fun s _ => match s with | .string b => b.size | _ => 0)
        case atStart => exact ⟨c :: t, rfl, HM.out, HMl.out, rfl⟩
        case round =>
          obtain ⟨r, rfl, hr, hrl, rfl⟩ := hrel
          by_cases hn : r = []
          · subst hn
            have hQ0 : R = [] := hr.symm
            subst hQ0
            clear hr
            go_wp2
            go_ret
            exact ⟨rfl, rfl⟩
          · obtain ⟨u, d, rfl⟩ : ∃ u d, r = u ++ [d] := ⟨r.dropLast, r.getLast hn, (List.dropLast_concat_getLast hn).symm⟩
            have hz2 : (bs (u ++ [d])).size = u.length + 1 := by rw [bs_size]; simp
            have BD : Hid (∀ X, Calls Tryz.prog 50 #[.int .u8 d.toNat] X _) := rblank_any d
            have hul : u.length + 1 ≤ 9223372036854775807 := by simpa using hrl
            rw [List.reverse_append, List.reverse_singleton, List.singleton_append, List.dropWhile_cons] at hr
            have hlast : ∀ h, (bs (u ++ [d]))[u.length]'h = d := fun h => (bs_at _ _ h (by simp)).trans (by simp)
            have hcut : (bs (u ++ [d])).extract 0 u.length = bs u := by rw [bs_cut]; simp
            cases hb2 : blk d with
            | true =>
              rw [hb2] at BD hr
              rw [if_pos rfl] at hr
              clear hb2 hn hrl
              go_wp2_with (go_at_call 50; refine (BD.out _).mono ?_; rintro e wz ⟨rfl, hw⟩; obtain rfl := hw.symm; clear hw)
              refine ⟨⟨u, rfl, hr, by omega, trivial⟩, ?_⟩
              show (bs u).size < (bs (u ++ [d])).size
              rw [hz2, bs_size]; omega
            | false =>
              rw [hb2] at BD hr
              have HR2 : Hid (u ++ [d] = R) := by show u ++ [d] = R; rw [← hr]; simp
              clear hb2 hn hrl hr HM
              go_wp2_with (go_at_call 50; refine (BD.out _).mono ?_; rintro e wz ⟨rfl, hw⟩; obtain rfl := hw.symm; clear hw)
              go_ret
              exact ⟨by rw [← HR2.out]; rfl, rfl⟩
set_option maxHeartbeats 1000000 in
set_option maxRecDepth 20000 in
theorem rbare_any (l : Bs) (w : World) (hl : l.length ≤ 9223372036854775807) : Calls Tryz.prog 13 #[.string (bs l)] w fun e w' => e = .returned (.string (bs (saidP l))) ∧ w' = w := by
  have TR : Hid (∀ m : Bs, m.length ≤ 9223372036854775807 → ∀ X, Calls Tryz.prog 26 #[.string (bs m)] X _) := fun m hm X => rtrim_any m X hm
  have hz : (bs l).size = l.length := bs_size l
  generalize hR : saidP l = R
  have HR : Hid (trimP (cutB [59].contains l) = R) := hR
  clear hR
  go_enter Tryz.func13, Tryz.ntmps13
  go_wp2
  go_loopw [3] (fun x wr => ∃ k : Nat, k ≤ l.length ∧ x = .int .i64 k ∧ (∀ c ∈ l.take k, c ≠ 59) ∧ wr = w) (fun x _ => l.length - (intOf x).toNat)
  case atStart => exact ⟨0, by omega, rfl, by simp, rfl⟩
  case round =>
    obtain ⟨k, hk, rfl, hno, rfl⟩ := hrel
    by_cases hlt : k < l.length
    · have hat : ∀ h, (bs l)[k]'h = l[k] := fun h => bs_at l k h hlt
      have hd : decide ((k : Int) < (l.length : Int)) = true := by simp; omega
      have hcut : (bs l).extract 0 k = bs (l.take k) := by rw [bs_cut]; simp
      by_cases hc : l[k] = 59
      · have hc2 : (((l[k]).toNat : Int) == 59) = true := by rw [hc]; rfl
        have hcb : cutB [59].contains l = l.take k := by
          have e : l = l.take k ++ 59 :: l.drop (k + 1) := by
            have h9 := (List.take_append_drop k l).symm
            rw [List.drop_eq_getElem_cons hlt, hc] at h9
            exact h9
          have h8 := (cut_at (p := [59].contains) (a := l.take k) (c := 59) (r := l.drop (k + 1)) (fun x hx => by simp [hno x hx]) (by decide)).1
          rw [← e] at h8
          exact h8
        have HC : Hid (trimP (l.take k) = R) := by show _ = R; rw [← hcb]; exact HR.out
        have hkl : (l.take k).length ≤ 9223372036854775807 := by rw [List.length_take]; omega
        have T2 : Hid (∀ X, Calls Tryz.prog 26 #[.string (bs (l.take k))] X _) := TR.out (l.take k) hkl
        clear hcb hc hkl hno
        generalize l.take k = m at hcut HC T2
        go_wp2_with (go_at_call 26; refine (T2.out _).mono ?_; rintro e wz ⟨rfl, hw⟩; obtain rfl := hw.symm; clear hw)
        go_ret
        exact ⟨by rw [← HC.out]; rfl, rfl⟩
      · have hc2 : (((l[k]).toNat : Int) == 59) = false := by
          have : (l[k]).toNat ≠ 59 := fun e => hc (UInt8.toNat_inj.1 (by rw [e]; rfl))
          simp; omega
        have HN : Hid (∀ c ∈ l.take (k + 1), c ≠ 59) := fun c hcm => by
          rw [List.take_add_one, List.getElem?_eq_getElem hlt] at hcm
          rcases List.mem_append.1 hcm with h1 | h1
          · exact hno c h1
          · simp at h1; rw [h1]; exact hc
        clear hno hc hcut
        go_wp2
        go_roundw
        case rel => exact ⟨k + 1, by omega, by go_num, HN.out, by first | rfl | trivial⟩
        case measure => simp [intOf]; omega
    · have hd : decide ((k : Int) < (l.length : Int)) = false := by simp; omega
      have hcb : cutB [59].contains l = l := cut_none (fun x hx => by
        have := hno x (by rw [List.take_of_length_le (by omega)]; exact hx)
        simp [this])
      have HC : Hid (trimP l = R) := by show _ = R; rw [← HR.out, hcb]
      have T2 : Hid (∀ X, Calls Tryz.prog 26 #[.string (bs l)] X _) := TR.out l hl
      clear hcb hno
      go_wp2_with (go_at_call 26; refine (T2.out _).mono ?_; rintro e wz ⟨rfl, hw⟩; obtain rfl := hw.symm; clear hw)
      go_ret
      exact ⟨by rw [← HC.out]; rfl, rfl⟩
end Go.Proofs.YtmldlkcgaepaaaaGreatDoor
