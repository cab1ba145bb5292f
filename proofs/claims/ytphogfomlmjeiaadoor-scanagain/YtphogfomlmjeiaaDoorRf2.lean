/-
  The document's layer 8: stands, remark, blanks.
-/
import Derived.Test.YtphogfomlmjeiaaDoorRf1
import Derived.Test.YtphogfomlmjeiaaDoorRem
namespace Go.Proofs.YtphogfomlmjeiaaDoor
set_option linter.unusedVariables false
set_option linter.unusedSimpArgs false
open Go.ChangeShapes Go.WideShapes Go.ChangeAt Go.RowKit
attribute [local go_sem ↓] loadTk_seal storeTk_seal loadKeys_seal loadSigns_seal
attribute [local go_sem] loadTk_run storeTk_run rowAt_at rowAt_old rowAt_drew rowAt_drewN roomTk_new roomAt_old roomAt_drew roomAt_drewN putTk_new Tk.fold putRow_past rowTk_put size_put putRow_drew putRow_drewN alloc_drewN setCell_drewN Tk.at0 Tk.at1 Tk.at2 Tk.at3 Tk.size Tk.set0 Tk.set1 Tk.set2 Tk.set3 Tk.ne rowAt_set rowAt_far roomAt_far

/-- Two bytes stand at a place. -/
def two (l : Bs) (p : Nat) (a b : UInt8) : Bool := (l.drop p).take 2 == [a, b]
theorem slice_mid (l : Bs) (k : Nat) (h : k + 2 ≤ l.length) (w : World) : (Instr.slice 9 (.string (bs l)) (some (.int .i64 (k : Int))) (some (.int .i64 ((k : Int) + 2))) none).run Tryd.prog w = .ok (.string (bs ((l.drop k).take 2))) w := by
  rw [run_slice_string w 9 (bs l) .i64 .i64 (k : Int) ((k : Int) + 2) Tryd.underlying9 (by omega) (by omega) (by rw [bs_size]; omega)]
  have e : ((k : Int) + 2).toNat = k + 2 := by omega
  rw [e, Int.toNat_natCast, bs_mid, show k + 2 - k = 2 by omega]
theorem two_short {l : Bs} {p : Nat} {a b : UInt8} (h : ¬ p + 1 < l.length) : two l p a b = false := by
  unfold two
  rw [beq_eq_false_iff_ne]
  intro e
  have := congrArg List.length e
  rw [List.length_take, List.length_drop] at this
  simp at this
  omega
theorem stands_any (l : Bs) (hl : l.length ≤ 1000000000) (p : Nat) (hp : p ≤ l.length) (a b : UInt8) (B : Bool) (hB : two l p a b = B) (w : World) : Calls Tryd.prog 36 #[.string (bs l), .int .i64 (p : Int), .string { data := #[a, b] }] w fun e w' => e = .returned (.bool B) ∧ w' = w := by
  have hz := bs_size l
  by_cases h : p + 1 < l.length
  · have d0 : decide ((p : Int) + 1 < (l.length : Int)) = true := decide_eq_true (by omega)
    have SL := slice_mid l p (by omega)
    have hq : ((bs ((l.drop p).take 2)).toList == ({ data := #[a, b] } : ByteArray).toList) = B := by
      rw [← hB]; exact str_eq ((l.drop p).take 2) [a, b]
    have hq2 : ((bs ((l.drop p).take 2)).toList == [a, b]) = B := by
      rw [← hB, Lib.toList_data, bs_data]; rfl
    generalize bs ((l.drop p).take 2) = x at *
    clear hB
    have HQ : Hid ((x.toList == [a, b]) = B) := hq2
    have HQ' : Hid ((x.toList == ({ data := #[a, b] } : ByteArray).toList) = B) := hq
    clear hq hq2
    go_enter Tryd.func36, Tryd.ntmps36
    go_wp2
    go_ret
    exact ⟨ret_bool (by first | exact HQ.out | exact HQ'.out), rfl⟩
  · have d0 : decide ((p : Int) + 1 < (l.length : Int)) = false := decide_eq_false (by omega)
    rw [two_short h] at hB
    subst hB
    go_enter Tryd.func36, Tryd.ntmps36
    go_wp2
    go_ret
    exact ⟨rfl, rfl⟩
/-- What is found from a place on, within d remarks. -/
def remQ (d : Nat) (l : Bs) (p : Nat) : Option Nat := upTo p (remP d (l.drop p))
theorem remQ_end {d : Nat} {l : Bs} {p : Nat} (h : ¬ p < l.length) : remQ d l p = none := by unfold remQ; rw [List.drop_of_length_le (by omega)]; rfl
theorem two_is {l : Bs} {p : Nat} {a b : UInt8} (h : two l p a b = true) : l.drop p = a :: b :: l.drop (p + 2) ∧ p + 2 ≤ l.length := by
  unfold two at h
  have e : (l.drop p).take 2 = [a, b] := by simpa using h
  have hl : p + 2 ≤ l.length := by
    have := congrArg List.length e
    rw [List.length_take, List.length_drop] at this
    simp at this; omega
  refine ⟨?_, hl⟩
  rw [← List.take_append_drop 2 (l.drop p), e, List.drop_drop]; rfl
theorem remQ_open {d : Nat} {l : Bs} {p : Nat} (h : two l p 40 42 = true) : remQ d l p = remQ (d + 1) l (p + 2) := by
  unfold remQ
  rw [(two_is h).1, remP, if_pos ⟨rfl, rfl⟩, upTo_map]
theorem remQ_last {d : Nat} {l : Bs} {p : Nat} (h : two l p 42 41 = true) (hd : d ≤ 1) : remQ d l p = some (p + 2) := by
  unfold remQ
  rw [(two_is h).1, remP, if_neg (by simp), if_pos ⟨rfl, rfl⟩, if_pos hd]; simp [upTo]; omega
theorem remQ_close {d : Nat} {l : Bs} {p : Nat} (h : two l p 42 41 = true) (hd : 2 ≤ d) : remQ d l p = remQ (d - 1) l (p + 2) := by
  unfold remQ
  rw [(two_is h).1, remP, if_neg (by simp), if_pos ⟨rfl, rfl⟩, if_neg (by omega), upTo_map]
theorem two_not {l : Bs} {p : Nat} {a b x y : UInt8} {r : Bs} (h : two l p a b = false) (hd : l.drop p = x :: y :: r) : ¬ (x = a ∧ y = b) := by
  intro e
  unfold two at h
  rw [hd, e.1, e.2] at h
  simp at h
theorem remQ_plain {d : Nat} {l : Bs} {p : Nat} (hp : p < l.length) (h1 : two l p 40 42 = false) (h2 : two l p 42 41 = false) : remQ d l p = remQ d l (p + 1) := by
  unfold remQ
  rw [drop_cons hp]
  by_cases hq : p + 1 < l.length
  · have hd := drop_cons hp
    rw [drop_cons hq] at hd ⊢
    rw [remP, if_neg (two_not h1 hd), if_neg (two_not h2 hd), upTo_map]
  · rw [List.drop_of_length_le (show l.length ≤ p + 1 by omega)]; rfl
def backI (o : Option Nat) : Int := match o with
  | some n => (n : Int)
  | none => -1
theorem rremark_any (l : Bs) (hl : l.length ≤ 1000000000) (p0 : Nat) (hp0 : two l p0 40 42 = true) (w : World) : Calls Tryd.prog 37 #[.string (bs l), .int .i64 (p0 : Int)] w fun e w' => e = .returned (.int .i64 (backI (remQ 0 l p0))) ∧ w' = w := by
  have hz := bs_size l
  obtain ⟨r, hr⟩ : ∃ r, remQ 0 l p0 = r := ⟨_, rfl⟩
  rw [hr]
  have HP : Hid (two l p0 40 42 = true) := hp0
  have hp1 := (two_is hp0).2
  have HR : Hid (remQ 0 l p0 = r) := hr
  clear hp0 hr
  go_enter Tryd.func37, Tryd.ntmps37
  go_wp2
  go_loopg [1, 4, 5] (l.length - p0) (fun gf s1 s4 s5 wx => ∃ p d : Nat, s1 = .int .i64 (p : Int) ∧ s4 = .int .i64 0 ∧ s5 = .int .i64 (d : Int) ∧ p0 ≤ p ∧ p ≤ l.length ∧ l.length ≤ p + gf ∧ d ≤ p ∧ wx = w ∧ Hid (remQ d l p = r ∧ (d = 0 → p = p0)))
  case atStart => exact ⟨p0, 0, rfl, rfl, rfl, by omega, by omega, by omega, by omega, rfl, HR.out, fun _ => rfl⟩
  case round =>
    obtain ⟨p, d, rfl, rfl, rfl, hp1, hp2, hp3, hdp, hww, HQ⟩ := hrel
    obtain rfl := hww.symm
    by_cases hlt : p < l.length
    · obtain ⟨g', rfl⟩ : ∃ g', gk = g' + 1 := ⟨gk - 1, by omega⟩
      have d0 : decide ((p : Int) < (l.length : Int)) = true := decide_eq_true (by omega)
      have ST : Hid (∀ a b W, Calls Tryd.prog 36 #[.string (bs l), .int .i64 (p : Int), .string { data := #[a, b] }] W fun e w' => e = .returned (.bool (two l p a b)) ∧ w' = W) := fun a b W => stands_any l hl p (by omega) a b _ rfl W
      cases h1 : two l p 40 42
      · cases h2 : two l p 42 41
        · have HN : Hid (remQ d l (p + 1) = r ∧ (d = 0 → p + 1 = p0)) := by
            refine ⟨by rw [← remQ_plain hlt h1 h2]; exact HQ.out.1, fun h => ?_⟩
            have := HQ.out.2 h
            subst this
            rw [HP.out] at h1; cases h1
          clear HQ
          go_wp2_with (go_at_call 36; refine (ST.out _ _ _).mono ?_; rintro e W' ⟨rfl, hw⟩; rw [hw]; clear hw)
          go_roundg g'
          case measure => omega
          case rel => exact ⟨p + 1, d, by simp, rfl, rfl, by omega, by omega, by omega, by omega, rfl, HN⟩
        · have ht := two_is h2
          have hd1 : 1 ≤ d := by
            rcases Nat.eq_zero_or_pos d with h | h
            · have := HQ.out.2 h
              subst this
              rw [HP.out] at h1; cases h1
            · exact h
          by_cases hd : d = 1
          · subst hd
            have HF : Hid (r = some (p + 2)) := by rw [← HQ.out.1]; exact remQ_last h2 (by omega)
            clear HQ
            go_wp2_with (go_at_call 36; refine (ST.out _ _ _).mono ?_; rintro e W' ⟨rfl, hw⟩; rw [hw]; clear hw)
            go_ret
            exact ⟨ret_int (by rw [HF.out]; simp [backI]), rfl⟩
          · obtain ⟨d', rfl⟩ : ∃ d', d = d' + 2 := ⟨d - 2, by omega⟩
            have HN : Hid (remQ (d' + 1) l (p + 2) = r ∧ (d' + 1 = 0 → p + 2 = p0)) := ⟨by rw [← HQ.out.1]; exact (remQ_close (d := d' + 2) h2 (by omega)).symm, fun h => by omega⟩
            have g1 : (((d' + 2 : Nat) : Int) - 1 == 0) = false := by rw [beq_eq_false_iff_ne]; omega
            clear HQ
            go_wp2_with (go_at_call 36; refine (ST.out _ _ _).mono ?_; rintro e W' ⟨rfl, hw⟩; rw [hw]; clear hw)
            go_roundg g'
            case measure => omega
            case rel => exact ⟨p + 2, d' + 1, by simp, rfl, by simp; omega, by omega, by omega, by omega, by omega, rfl, HN⟩
      · have ht := two_is h1
        have HN : Hid (remQ (d + 1) l (p + 2) = r ∧ (d + 1 = 0 → p + 2 = p0)) := ⟨by rw [← HQ.out.1]; exact (remQ_open h1).symm, fun h => by omega⟩
        clear HQ
        go_wp2_with (go_at_call 36; refine (ST.out _ _ _).mono ?_; rintro e W' ⟨rfl, hw⟩; rw [hw]; clear hw)
        go_roundg g'
        case measure => omega
        case rel => exact ⟨p + 2, d + 1, by simp, rfl, by simp, by omega, by omega, by omega, by omega, rfl, HN⟩
    · have d0 : decide ((p : Int) < (l.length : Int)) = false := decide_eq_false (by omega)
      have HF : Hid (r = none) := by rw [← HQ.out.1]; exact remQ_end hlt
      clear HQ
      go_wp2
      go_ret
      exact ⟨ret_int (by rw [HF.out]; rfl), rfl⟩
theorem two_opens (l : Bs) (p : Nat) : two l p 40 42 = opens (l.drop p) := by
  unfold two
  match l.drop p with
  | [] => rfl
  | [a] => simp [opens]
  | a :: b :: r => simp [opens]
theorem blk_or (c : UInt8) : ((c.toNat : Int) == 32 || (c.toNat : Int) == 9 || (c.toNat : Int) == 10 || (c.toNat : Int) == 13) = blk c := rfl
set_option maxHeartbeats 1000000 in
theorem rblanks_any (l : Bs) (hl : l.length ≤ 1000000000) (p0 : Nat) (hp0 : p0 ≤ l.length) (w : World) : Calls Tryd.prog 19 #[.string (bs l), .int .i64 (p0 : Int)] w fun e w' => e = .returned (.tuple #[.int .i64 ((p0 + skip (l.drop p0) : Nat) : Int), .bool (!opens (l.drop (p0 + skip (l.drop p0))))]) ∧ w' = w := by
  have hz := bs_size l
  obtain ⟨t, ht⟩ : ∃ t, p0 + skip (l.drop p0) = t := ⟨_, rfl⟩
  rw [ht]
  go_enter Tryd.func19, Tryd.ntmps19
  go_wp2
  go_loopg [1, 4, 5] (l.length - p0) (fun gf s1 s4 s5 wx => ∃ p : Nat, s1 = .int .i64 (p : Int) ∧ s4 = .int .i64 0 ∧ s5 = .bool false ∧ p ≤ l.length ∧ l.length ≤ p + gf ∧ wx = w ∧ Hid (p + skip (l.drop p) = t))
  case atStart => exact ⟨p0, rfl, rfl, rfl, by omega, by omega, rfl, ht⟩
  case round =>
    obtain ⟨p, rfl, rfl, rfl, hp1, hp2, hww, HT⟩ := hrel
    obtain rfl := hww.symm
    clear ht
    by_cases hlt : p < l.length
    · obtain ⟨g', rfl⟩ : ∃ g', gk = g' + 1 := ⟨gk - 1, by omega⟩
      have d0 : decide ((p : Int) < (l.length : Int)) = true := decide_eq_true (by omega)
      have IX := index_str l p hlt (p : Int) rfl
      have hd := drop_cons hlt
      obtain ⟨c, hc⟩ : ∃ c, l[p]'hlt = c := ⟨_, rfl⟩
      rw [hc] at IX hd
      have ST : Hid (∀ a b W, Calls Tryd.prog 36 #[.string (bs l), .int .i64 (p : Int), .string { data := #[a, b] }] W fun e w' => e = .returned (.bool (two l p a b)) ∧ w' = W) := fun a b W => stands_any l hl p (by omega) a b _ rfl W
      cases hb : blk c
      · have nb : ((c.toNat : Int) == 32) = false ∧ ((c.toNat : Int) == 9) = false ∧ ((c.toNat : Int) == 10) = false ∧ ((c.toNat : Int) == 13) = false := by
          rw [← blk_or] at hb
          simp only [Bool.or_eq_false_iff] at hb
          exact ⟨hb.1.1.1, hb.1.1.2, hb.1.2, hb.2⟩
        obtain ⟨n1, n2, n3, n4⟩ := nb
        cases ho : two l p 40 42
        · have hs : skip (l.drop p) = 0 := by
            have ho2 : opens (c :: l.drop (p + 1)) = false := by rw [← hd, ← two_opens]; exact ho
            rw [hd]
            exact skip_stop hb (by unfold remN; rw [ho2]; rfl)
          have HF : Hid (t = p ∧ opens (l.drop t) = false) := by
            have := HT.out
            rw [hs, Nat.add_zero] at this
            subst this
            exact ⟨rfl, by rw [← two_opens]; exact ho⟩
          clear HT hs hd hc hb
          go_wp2_with (go_at_call 36; refine (ST.out _ _ _).mono ?_; rintro e W' ⟨rfl, hw⟩; rw [hw]; clear hw)
          go_ret2
          exact ⟨by rw [HF.out.2, HF.out.1]; rfl, rfl⟩
        · have RM : Hid (∀ W, Calls Tryd.prog 37 #[.string (bs l), .int .i64 (p : Int)] W fun e w' => e = .returned (.int .i64 (backI (remQ 0 l p))) ∧ w' = W) := fun W => rremark_any l hl p ho W
          have hop : opens (l.drop p) = true := by rw [← two_opens]; exact ho
          cases hr : remP 0 (l.drop p) with
          | none =>
            have hq : backI (remQ 0 l p) = -1 := by unfold remQ; rw [hr]; rfl
            rw [hq] at RM
            have hs : skip (l.drop p) = 0 := by
              have hn : remN (l.drop p) = 0 := by unfold remN; rw [hr]; split <;> rfl
              rw [hd] at hn ⊢
              exact skip_stop hb hn
            have HF : Hid (t = p ∧ opens (l.drop t) = true) := by
              have := HT.out
              rw [hs, Nat.add_zero] at this
              subst this
              exact ⟨rfl, hop⟩
            clear HT hs hd hc hb hop
            go_wp2_with (first | (go_at_call 36; refine (ST.out _ _ _).mono ?_; rintro e W' ⟨rfl, hw⟩; rw [hw]; clear hw) | (go_at_call 37; refine (RM.out _).mono ?_; rintro e W' ⟨rfl, hw⟩; rw [hw]; clear hw))
            go_ret2
            exact ⟨by rw [HF.out.2, HF.out.1]; rfl, rfl⟩
          | some n =>
            have hq : backI (remQ 0 l p) = ((p + n : Nat) : Int) := by unfold remQ; rw [hr]; simp [upTo, backI]; omega
            rw [hq] at RM
            have hln := remP_le _ _ _ hr
            rw [List.length_drop] at hln
            have hn : remN (l.drop p) = n := by unfold remN; rw [hr, hop]; rfl
            have HN : Hid (p + n + skip (l.drop (p + n)) = t) := by
              have := HT.out
              rw [skip_rem (by rw [hn]; omega), hn, List.drop_drop] at this
              show _ = _
              omega
            have g1 : decide (((p + n : Nat) : Int) < 0) = false := decide_eq_false (by omega)
            clear HT hd hc hb hop hr hn
            go_wp2_with (first | (go_at_call 36; refine (ST.out _ _ _).mono ?_; rintro e W' ⟨rfl, hw⟩; rw [hw]; clear hw) | (go_at_call 37; refine (RM.out _).mono ?_; rintro e W' ⟨rfl, hw⟩; rw [hw]; clear hw))
            go_roundg g'
            case measure => omega
            case rel => exact ⟨p + n, by simp, rfl, rfl, by omega, by omega, rfl, HN⟩
      · have HN : Hid (p + 1 + skip (l.drop (p + 1)) = t) := by
          have := HT.out
          rw [hd, skip_blk hb] at this
          show _ = _
          omega
        have hb' := hb
        rw [← blk_or] at hb'
        generalize two l p 40 42 = o2 at *
        clear HT hd hc hb
        cases e1 : ((c.toNat : Int) == 32) <;> cases e2 : ((c.toNat : Int) == 9) <;> cases e3 : ((c.toNat : Int) == 10) <;> cases e4 : ((c.toNat : Int) == 13)
        all_goals first
          | (rw [e1, e2, e3, e4] at hb'; cases hb'; done)
          | (clear hb'
             go_wp2_with (go_at_call 36; refine (ST.out _ _ _).mono ?_; rintro e W' ⟨rfl, hw⟩; rw [hw]; clear hw)
             go_roundg g'
             case measure => omega
             case rel => exact ⟨p + 1, by simp, rfl, rfl, by omega, by omega, rfl, HN⟩)
    · have d0 : decide ((p : Int) < (l.length : Int)) = false := decide_eq_false (by omega)
      have HF : Hid (t = p ∧ opens (l.drop t) = false) := by
        have := HT.out
        rw [List.drop_of_length_le (by omega), skip_nil, Nat.add_zero] at this
        subst this
        exact ⟨rfl, by rw [List.drop_of_length_le (by omega)]; rfl⟩
      clear HT
      go_wp2
      go_ret2
      exact ⟨by rw [HF.out.2, HF.out.1]; rfl, rfl⟩
end Go.Proofs.YtphogfomlmjeiaaDoor
