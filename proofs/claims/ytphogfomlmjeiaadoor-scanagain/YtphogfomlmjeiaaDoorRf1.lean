/-
  The document's layer 8: letter, digit, word, Keywords, isIn, IsName, stands.
-/
import Derived.Test.YtphogfomlmjeiaaDoorNam
namespace Go.Proofs.YtphogfomlmjeiaaDoor
set_option linter.unusedVariables false
set_option linter.unusedSimpArgs false
open Go.ChangeShapes Go.WideShapes Go.ChangeAt Go.RowKit
attribute [local go_sem ↓] loadTk_seal storeTk_seal loadKeys_seal loadSigns_seal
attribute [local go_sem] loadTk_run storeTk_run rowAt_at rowAt_old rowAt_drew rowAt_drewN roomTk_new roomAt_old roomAt_drew roomAt_drewN putTk_new Tk.fold putRow_past rowTk_put size_put putRow_drew putRow_drewN alloc_drewN setCell_drewN Tk.at0 Tk.at1 Tk.at2 Tk.at3 Tk.size Tk.set0 Tk.set1 Tk.set2 Tk.set3 Tk.ne rowAt_set rowAt_far roomAt_far

theorem rletter_any (r : Int) (w : World) : Calls Tryd.prog 24 #[.int .u8 r] w fun e w' => e = .returned (.bool (ltrI r)) ∧ w' = w := by
  go_enter Tryd.func24, Tryd.ntmps24
  go_wp2
  all_goals go_ret
  all_goals refine ⟨ret_bool ?_, rfl⟩
  all_goals (unfold ltrI; first | rfl | (rw [Bool.eq_iff_iff]; simp_all; done) | (rw [Bool.eq_iff_iff]; simp_all; omega))
theorem rdigit_any (r : Int) (w : World) : Calls Tryd.prog 38 #[.int .u8 r] w fun e w' => e = .returned (.bool (digI r)) ∧ w' = w := by
  go_enter Tryd.func38, Tryd.ntmps38
  go_wp2
  all_goals go_ret
  all_goals refine ⟨ret_bool ?_, rfl⟩
  all_goals (unfold digI; first | rfl | (rw [Bool.eq_iff_iff]; simp_all; done) | (rw [Bool.eq_iff_iff]; simp_all; omega))
theorem word_t {c : UInt8} {r : Bs} (h : wch c = true) : wordL (c :: r) = c :: wordL r := by simp [wordL, h]
theorem word_f {c : UInt8} {r : Bs} (h : wch c = false) : wordL (c :: r) = [] := by simp [wordL, h]
theorem rword_any (l : Bs) (hl : l.length ≤ 9223372036854775807) (p : Nat) (hp : p ≤ l.length) (w : World) : Calls Tryd.prog 25 #[.string (bs l), .int .i64 (p : Int)] w fun e w' => e = .returned (.int .i64 (((wordL (l.drop p)).length : Nat) : Int)) ∧ w' = w := by
  have hz := bs_size l
  go_enter Tryd.func25, Tryd.ntmps25
  go_wp2
  go_loopg [4, 5] (l.length - p) (fun gf s4 s5 wx => ∃ n : Nat, s4 = .int .i64 0 ∧ s5 = .int .i64 (n : Int) ∧ p + n + gf = l.length ∧ wx = w ∧ Hid ((wordL (l.drop p)).length = n + (wordL (l.drop (p + n))).length))
  case atStart => exact ⟨0, rfl, rfl, by omega, rfl, by simp [Hid]⟩
  case round =>
    obtain ⟨n, rfl, rfl, hp2, hww, HW⟩ := hrel
    obtain rfl := hww.symm
    by_cases hlt : p + n < l.length
    · obtain ⟨g', rfl⟩ : ∃ g', gk = g' + 1 := ⟨gk - 1, by omega⟩
      have IX := index_str l (p + n) hlt ((p : Int) + (n : Int)) (by simp)
      have d0 : decide ((p : Int) + (n : Int) < (l.length : Int)) = true := by simp; omega
      have hW := HW.out
      rw [drop_cons hlt] at hW
      have hcw : wch l[p + n] = (ltrI l[p + n].toNat || digI l[p + n].toNat) := rfl
      obtain ⟨c, hc⟩ : ∃ c, l[p + n]'hlt = c := ⟨_, rfl⟩
      rw [hc] at IX hW hcw
      have LT := fun W => rletter_any (c.toNat : Int) W
      have DG := fun W => rdigit_any (c.toNat : Int) W
      clear HW hc
      cases h1 : ltrI c.toNat <;> cases h2 : digI c.toNat
      · rw [h1, h2] at hcw
        rw [h1] at LT
        rw [h2] at DG
        have HT : Hid ((wordL (l.drop p)).length = n) := by rw [word_f hcw] at hW; exact hW
        clear hW hcw
        go_wp2_with (first | (go_at_call 24; refine (LT _).mono ?_; rintro e W' ⟨rfl, hw⟩; rw [hw]; clear hw) | (go_at_call 38; refine (DG _).mono ?_; rintro e W' ⟨rfl, hw⟩; rw [hw]; clear hw))
        go_ret
        exact ⟨ret_int (by rw [HT.out]), rfl⟩
      all_goals
        rw [h1, h2] at hcw
        rw [h1] at LT
        rw [h2] at DG
        have HT : Hid ((wordL (l.drop p)).length = (n + 1) + (wordL (l.drop (p + (n + 1)))).length) := by rw [word_t hcw] at hW; rw [show p + (n + 1) = p + n + 1 by omega]; show _ = _; rw [hW, List.length_cons]; omega
        clear hW hcw
        go_wp2_with (first | (go_at_call 24; refine (LT _).mono ?_; rintro e W' ⟨rfl, hw⟩; rw [hw]; clear hw) | (go_at_call 38; refine (DG _).mono ?_; rintro e W' ⟨rfl, hw⟩; rw [hw]; clear hw))
        go_roundg g'
        case measure => omega
        case rel => exact ⟨n + 1, rfl, by simp, by omega, rfl, HT⟩
    · have d0 : decide ((p : Int) + (n : Int) < (l.length : Int)) = false := by simp; omega
      have HT : Hid ((wordL (l.drop p)).length = n) := by have := HW.out; rw [List.drop_of_length_le (show l.length ≤ p + n by omega)] at this; simpa [wordL, Hid] using this
      clear HW
      go_wp2
      go_ret
      exact ⟨ret_int (by rw [HT.out]), rfl⟩
theorem rkeys_any (w : World) : Calls Tryd.prog 27 #[] w fun e w' => ∃ g, e = .returned (.slice (some ⟨g, 0, none⟩) 32 32) ∧ w.heap.size ≤ g ∧ g < w'.heap.size ∧ (∀ o (ho : o < keysL.length), w'.cell? ⟨g, o, none⟩ = some (.string (bs keysL[o]))) ∧ Below w.heap.size w w' := by
  go_enter Tryd.func27, Tryd.ntmps27
  go_wp2
  go_ret
  refine ⟨_, rfl, Nat.le_refl _, by simp, fun o ho => ?_, (Below.refl _ _).alloc (Nat.le_refl _) _⟩
  rw [World.cell?_alloc_new, List.getElem?_toArray]
  exact strs_at (l := keysL) ho
theorem rsigns_any (w : World) : Calls Tryd.prog 48 #[] w fun e w' => ∃ g, e = .returned (.slice (some ⟨g, 0, none⟩) 26 26) ∧ w.heap.size ≤ g ∧ g < w'.heap.size ∧ (∀ o (ho : o < signsL.length), w'.cell? ⟨g, o, none⟩ = some (.string (bs signsL[o]))) ∧ Below w.heap.size w w' := by
  go_enter Tryd.func48, Tryd.ntmps48
  go_wp2
  go_ret
  refine ⟨_, rfl, Nat.le_refl _, by simp, fun o ho => ?_, (Below.refl _ _).alloc (Nat.le_refl _) _⟩
  rw [World.cell?_alloc_new, List.getElem?_toArray]
  exact strs_at (l := signsL) ho
theorem risIn_any (L : List Bs) (hL : L.length ≤ 1000) (g : Nat) (s : Bs) (w : World) (hc : ∀ o (ho : o < L.length), w.cell? ⟨g, o, none⟩ = some (.string (bs L[o]))) (B : Bool) (hB : L.contains s = B) : Calls Tryd.prog 26 #[.slice (some ⟨g, 0, none⟩) L.length L.length, .string (bs s)] w fun e w' => e = .returned (.bool B) ∧ w' = w := by
  have HB : Hid (L.contains s = B) := hB
  clear hB
  have HC : Hid (∀ o (ho : o < L.length), w.cell? ⟨g, o, none⟩ = some (.string (bs L[o]))) := hc
  clear hc
  go_enter Tryd.func26, Tryd.ntmps26
  go_wp2
  go_loopg [4, 5] L.length (fun gf s4 s5 wx => ∃ i : Nat, s4 = .bool false ∧ s5 = .int .i64 (i : Int) ∧ i + gf = L.length ∧ wx = w ∧ Hid (L.contains s = (L.drop i).contains s))
  case atStart => exact ⟨0, rfl, rfl, by omega, rfl, rfl⟩
  case round =>
    obtain ⟨i, rfl, rfl, hi, hww, HK⟩ := hrel
    obtain rfl := hww.symm
    by_cases hlt : i < L.length
    · obtain ⟨g', rfl⟩ : ∃ g', gk = g' + 1 := ⟨gk - 1, by omega⟩
      have hcl := HC.out i hlt
      have hd : L.drop i = L[i]'hlt :: L.drop (i + 1) := List.drop_eq_getElem_cons hlt
      have d0 : decide ((i : Int) < (L.length : Int)) = true := by simp; omega
      obtain ⟨x, hx⟩ : ∃ x, L[i]'hlt = x := ⟨_, rfl⟩
      rw [hx] at hcl hd
      have hq := str_eq x s
      have hs : L.contains s = (s == x || (L.drop (i + 1)).contains s) := by rw [HK.out, hd, List.contains_cons]
      rw [BEq.comm] at hs
      clear HK hd hx
      cases he : (x == s)
      · rw [he] at hq hs
        have HK : Hid (L.contains s = (L.drop (i + 1)).contains s) := by rw [Bool.false_or] at hs; exact hs
        clear hs he
        go_wp2
        go_roundg g'
        case measure => omega
        case rel => exact ⟨i + 1, rfl, by simp, by omega, rfl, HK⟩
      · rw [he] at hq hs
        have HK : Hid (L.contains s = true) := by rw [Bool.true_or] at hs; exact hs
        clear hs he
        go_wp2
        go_ret
        exact ⟨ret_bool (HK.out.symm.trans HB.out), rfl⟩
    · have d0 : decide ((i : Int) < (L.length : Int)) = false := by simp; omega
      have HF : Hid (L.contains s = false) := by have := HK.out; rw [List.drop_of_length_le (by omega)] at this; simpa [Hid] using this
      clear HK
      go_wp2
      go_ret
      exact ⟨ret_bool (HF.out.symm.trans HB.out), rfl⟩
theorem own_below {w w1 : World} (g : Nat) (hg : g < w1.heap.size) {w2 : World} (hb : Below w1.heap.size w1 w2) {L : List Bs} (h : ∀ o (ho : o < L.length), w1.cell? ⟨g, o, none⟩ = some (.string (bs L[o]))) : ∀ o (ho : o < L.length), w2.cell? ⟨g, o, none⟩ = some (.string (bs L[o])) := fun o ho => (hb.cell (p := ⟨g, _, none⟩) hg).trans (h o ho)
set_option maxHeartbeats 1000000 in
theorem rIsName_any (l : Bs) (hl : l.length ≤ 9223372036854775807) (w : World) : Calls Tryd.prog 13 #[.string (bs l)] w fun e w' => e = .returned (.bool (isNameP l)) ∧ Below w.heap.size w w' := by
  have hz := bs_size l
  by_cases h1 : l.length < 1
  · have : l = [] := List.eq_nil_of_length_eq_zero (by omega)
    subst this
    go_enter Tryd.func13, Tryd.ntmps13
    go_wp2
    go_ret
    exact ⟨rfl, Below.refl _ _⟩
  · have d1 : decide ((l.length : Int) < 1) = false := by simp; omega
    by_cases h20 : 20 < l.length
    · have d2 : decide ((20 : Int) < (l.length : Int)) = true := by simp; omega
      have HN : Hid (isNameP l = false) := by have : isNameP l = false := by simp only [isNameP, show ¬ l.length ≤ 20 by omega, decide_false]; simp
                                              exact this
      go_enter Tryd.func13, Tryd.ntmps13
      go_wp2
      go_ret
      exact ⟨ret_bool HN.out.symm, Below.refl _ _⟩
    · have d2 : decide ((20 : Int) < (l.length : Int)) = false := by simp; omega
      have IX := index_str l 0 (by omega) 0 rfl
      have WD := fun W => rword_any l hl 0 (by omega) W
      rw [List.drop_zero] at WD
      have hN : isNameP l = (lett (l[0]'(by omega)) && ((wordL l).length == l.length) && !isKeyP l) := by
        cases l with
        | nil => simp at h1
        | cons c r =>
          have e : (wordL (c :: r) == c :: r) = ((wordL (c :: r)).length == (c :: r).length) := by
            rw [Bool.eq_iff_iff, beq_iff_eq, beq_iff_eq]
            exact ⟨fun h => by rw [h], fun h => (List.takeWhile_prefix wch).eq_of_length h⟩
          simp only [isNameP, List.isEmpty_cons, show (c :: r).length ≤ 20 by omega, decide_true, List.headD_cons, e]; simp
      obtain ⟨c, hc⟩ : ∃ c, l[0]'(by omega) = c := ⟨_, rfl⟩
      have LT := fun W => rletter_any (c.toNat : Int) W
      obtain ⟨B, hB⟩ : ∃ B, keysL.contains l = B := ⟨_, rfl⟩
      have KI := fun g W hc => risIn_any keysL (by decide) g l W hc B hB
      have hN : isNameP l = (ltrI c.toNat && ((wordL l).length == l.length) && !B) := by rw [hN, hc, ← hB]; rfl
      rw [hc] at IX
      generalize ltrI c.toNat = L at LT hN
      have hqw : ((((wordL l).length : Nat) : Int) == ((l.length : Nat) : Int)) = ((wordL l).length == l.length) := by rw [Bool.eq_iff_iff]; simp; omega
      generalize (wordL l).length = n at WD hN hqw
      generalize (n == l.length) = E at hN hqw
      have HN : Hid (isNameP l = (L && E && !B)) := hN
      clear hN hc hB
      go_enter Tryd.func13, Tryd.ntmps13
      go_wp2_with (first | (go_at_call 24; refine (LT _).mono ?_; rintro e W' ⟨rfl, hw⟩; rw [hw]; clear hw) | (go_at_call 25; refine (WD _).mono ?_; rintro e W' ⟨rfl, hw⟩; rw [hw]; clear hw) | (go_at_call 27; refine (rkeys_any _).mono ?_; rintro e w1 ⟨g, rfl, hg1, hg2, hgc, hb1⟩) | (go_at_call 26; refine (KI g w1 hgc).mono ?_; rintro e W' ⟨rfl, hw⟩; rw [hw]; clear hw))
      all_goals go_ret
      all_goals refine ⟨ret_bool ?_, ?_⟩
      all_goals first | exact hb1 | exact Below.refl _ _ | skip
      all_goals (rw [HN.out]; simp_all)
end Go.Proofs.YtphogfomlmjeiaaDoor
