/-
  The document's layer 8: letter, digit, word, Keywords, isIn, IsName, stands.
  The document's layer 8: hex, based, decimal, quoted, sign.
  The document's layer 8: quoted, sign, number.
  The document's layer 8: number, token.
  The document's layer 8: token.
  The document's layer 8: stands, remark, blanks.
  The document's layer 8: All, of every text.
-/
import Derived.Test.YtejcjhoojpoamaaDoorNam
import Derived.Test.YtejcjhoojpoamaaDoorTk1
import Derived.Test.YtejcjhoojpoamaaDoorTk2
import Derived.Test.YtejcjhoojpoamaaDoorTk3
import Derived.Test.YtejcjhoojpoamaaDoorRem
import Derived.Test.YtejcjhoojpoamaaDoorAll
namespace Go.Proofs.YtejcjhoojpoamaaDoor
set_option linter.unusedVariables false
set_option linter.unusedSimpArgs false
open Go.ChangeShapes Go.WideShapes Go.ChangeAt Go.RowKit
attribute [local go_sem ↓] loadTk_seal storeTk_seal loadKeys_seal loadSigns_seal
attribute [local go_sem] loadTk_run storeTk_run rowAt_at rowAt_old rowAt_drew rowAt_drewN roomTk_new roomAt_old roomAt_drew roomAt_drewN putTk_new Tk.fold putRow_past rowTk_put size_put putRow_drew putRow_drewN alloc_drewN setCell_drewN Tk.at0 Tk.at1 Tk.at2 Tk.at3 Tk.size Tk.set0 Tk.set1 Tk.set2 Tk.set3 Tk.ne rowAt_set rowAt_far roomAt_far

set_option maxRecDepth 20000 in
theorem rletter_any (r : Int) (w : World) : Calls Tryd.prog 69 #[.int .u8 r] w fun e w' => e = .returned (.bool (ltrI r)) ∧ w' = w := by
  go_enter Tryd.func69, Tryd.ntmps69
  go_wp2
  all_goals go_ret
  all_goals refine ⟨ret_bool ?_, rfl⟩
  all_goals (unfold ltrI; first | rfl | (rw [Bool.eq_iff_iff]; simp_all; done) | (rw [Bool.eq_iff_iff]; simp_all; omega))
set_option maxRecDepth 20000 in
theorem rdigit_any (r : Int) (w : World) : Calls Tryd.prog 70 #[.int .u8 r] w fun e w' => e = .returned (.bool (digI r)) ∧ w' = w := by
  go_enter Tryd.func70, Tryd.ntmps70
  go_wp2
  all_goals go_ret
  all_goals refine ⟨ret_bool ?_, rfl⟩
  all_goals (unfold digI; first | rfl | (rw [Bool.eq_iff_iff]; simp_all; done) | (rw [Bool.eq_iff_iff]; simp_all; omega))
theorem word_t {c : UInt8} {r : Bs} (h : wch c = true) : wordL (c :: r) = c :: wordL r := by simp [wordL, h]
theorem word_f {c : UInt8} {r : Bs} (h : wch c = false) : wordL (c :: r) = [] := by simp [wordL, h]
set_option maxRecDepth 20000 in
theorem rword_any (l : Bs) (hl : l.length ≤ 9223372036854775807) (p : Nat) (hp : p ≤ l.length) (w : World) : Calls Tryd.prog 68 #[.string (bs l), .int .i64 (p : Int)] w fun e w' => e = .returned (.int .i64 (((wordL (l.drop p)).length : Nat) : Int)) ∧ w' = w := by
  have hz := bs_size l
  go_enter Tryd.func68, Tryd.ntmps68
  go_wp2
  go_loopg [4, 5] (l.length - p) (fun gf s4 s5 wx => ∃ n : Nat, s4 = .int .i64 0 ∧ s5 = .int .i64 (n : Int) ∧ p + n + gf = l.length ∧ wx = w ∧ Hid ((wordL (l.drop p)).length = n + (wordL (l.drop (p + n))).length))
  case atStart => exact ⟨0, rfl, rfl, by omega, rfl, by simp [Hid]⟩
  case round =>
    obtain ⟨n, rfl, rfl, hp2, hww, HW⟩ := hrel
    obtain rfl := hww.symm
    by_cases hlt : p + n < l.length
    · obtain ⟨g', rfl⟩ : ∃ g', gk = g' + 1 := ⟨gk - 1, by omega⟩
      have IX := index_str l (p + n) hlt ((p : Int) + (n : Int)) (by simp)
      have d0 : decide ((p : Int) + (n : Int) < (l.length : Int)) = true := by simp; omega
      have hW := HW.out
      rw [drop_cons hlt] at hW
      have hcw : wch l[p + n] = (ltrI l[p + n].toNat || digI l[p + n].toNat) := rfl
      obtain ⟨c, hc⟩ : ∃ c, l[p + n]'hlt = c := ⟨_, rfl⟩
      rw [hc] at IX hW hcw
      have LT := fun W => rletter_any (c.toNat : Int) W
      have DG := fun W => rdigit_any (c.toNat : Int) W
      clear HW hc
      cases h1 : ltrI c.toNat <;> cases h2 : digI c.toNat
      · rw [h1, h2] at hcw
        rw [h1] at LT
        rw [h2] at DG
        have HT : Hid ((wordL (l.drop p)).length = n) := by rw [word_f hcw] at hW; exact hW
        clear hW hcw
        go_wp2_with (first | (go_at_call 69; refine (LT _).mono ?_; rintro e W' ⟨rfl, hw⟩; rw [hw]; clear hw) | (go_at_call 70; refine (DG _).mono ?_; rintro e W' ⟨rfl, hw⟩; rw [hw]; clear hw))
        go_ret
        exact ⟨ret_int (by rw [HT.out]), rfl⟩
      all_goals
        rw [h1, h2] at hcw
        rw [h1] at LT
        rw [h2] at DG
        have HT : Hid ((wordL (l.drop p)).length = (n + 1) + (wordL (l.drop (p + (n + 1)))).length) := by rw [word_t hcw] at hW; rw [show p + (n + 1) = p + n + 1 by omega]; show _ = _; rw [hW, List.length_cons]; omega
        clear hW hcw
        go_wp2_with (first | (go_at_call 69; refine (LT _).mono ?_; rintro e W' ⟨rfl, hw⟩; rw [hw]; clear hw) | (go_at_call 70; refine (DG _).mono ?_; rintro e W' ⟨rfl, hw⟩; rw [hw]; clear hw))
        go_roundg g'
        case measure => omega
        case rel => exact ⟨n + 1, rfl, by simp, by omega, rfl, HT⟩
    · have d0 : decide ((p : Int) + (n : Int) < (l.length : Int)) = false := by simp; omega
      have HT : Hid ((wordL (l.drop p)).length = n) := by have := HW.out; rw [List.drop_of_length_le (show l.length ≤ p + n by omega)] at this; simpa [wordL, Hid] using this
      clear HW
      go_wp2
      go_ret
      exact ⟨ret_int (by rw [HT.out]), rfl⟩
set_option maxRecDepth 20000 in
theorem rkeys_any (w : World) : Calls Tryd.prog 72 #[] w fun e w' => ∃ g, e = .returned (.slice (some ⟨g, 0, none⟩) 32 32) ∧ w.heap.size ≤ g ∧ g < w'.heap.size ∧ (∀ o (ho : o < keysL.length), w'.cell? ⟨g, o, none⟩ = some (.string (bs keysL[o]))) ∧ Below w.heap.size w w' := by
  go_enter Tryd.func72, Tryd.ntmps72
  go_wp2
  go_ret
  refine ⟨_, rfl, Nat.le_refl _, by simp, fun o ho => ?_, (Below.refl _ _).alloc (Nat.le_refl _) _⟩
  rw [World.cell?_alloc_new, List.getElem?_toArray]
  exact strs_at (l := keysL) ho
set_option maxRecDepth 20000 in
theorem rsigns_any (w : World) : Calls Tryd.prog 97 #[] w fun e w' => ∃ g, e = .returned (.slice (some ⟨g, 0, none⟩) 26 26) ∧ w.heap.size ≤ g ∧ g < w'.heap.size ∧ (∀ o (ho : o < signsL.length), w'.cell? ⟨g, o, none⟩ = some (.string (bs signsL[o]))) ∧ Below w.heap.size w w' := by
  go_enter Tryd.func97, Tryd.ntmps97
  go_wp2
  go_ret
  refine ⟨_, rfl, Nat.le_refl _, by simp, fun o ho => ?_, (Below.refl _ _).alloc (Nat.le_refl _) _⟩
  rw [World.cell?_alloc_new, List.getElem?_toArray]
  exact strs_at (l := signsL) ho
set_option maxRecDepth 20000 in
theorem risIn_any (L : List Bs) (hL : L.length ≤ 1000) (g : Nat) (s : Bs) (w : World) (hc : ∀ o (ho : o < L.length), w.cell? ⟨g, o, none⟩ = some (.string (bs L[o]))) (B : Bool) (hB : L.contains s = B) : Calls Tryd.prog 71 #[.slice (some ⟨g, 0, none⟩) L.length L.length, .string (bs s)] w fun e w' => e = .returned (.bool B) ∧ w' = w := by
  have HB : Hid (L.contains s = B) := hB
  clear hB
  have HC : Hid (∀ o (ho : o < L.length), w.cell? ⟨g, o, none⟩ = some (.string (bs L[o]))) := hc
  clear hc
  go_enter Tryd.func71, Tryd.ntmps71
  go_wp2
  go_loopg [4, 5] L.length (fun gf s4 s5 wx => ∃ i : Nat, s4 = .bool false ∧ s5 = .int .i64 (i : Int) ∧ i + gf = L.length ∧ wx = w ∧ Hid (L.contains s = (L.drop i).contains s))
  case atStart => exact ⟨0, rfl, rfl, by omega, rfl, rfl⟩
  case round =>
    obtain ⟨i, rfl, rfl, hi, hww, HK⟩ := hrel
    obtain rfl := hww.symm
    by_cases hlt : i < L.length
    · obtain ⟨g', rfl⟩ : ∃ g', gk = g' + 1 := ⟨gk - 1, by omega⟩
      have hcl := HC.out i hlt
      have hd : L.drop i = L[i]'hlt :: L.drop (i + 1) := List.drop_eq_getElem_cons hlt
      have d0 : decide ((i : Int) < (L.length : Int)) = true := by simp; omega
      obtain ⟨x, hx⟩ : ∃ x, L[i]'hlt = x := ⟨_, rfl⟩
      rw [hx] at hcl hd
      have hq := str_eq x s
      have hs : L.contains s = (s == x || (L.drop (i + 1)).contains s) := by rw [HK.out, hd, List.contains_cons]
      rw [BEq.comm] at hs
      clear HK hd hx
      cases he : (x == s)
      · rw [he] at hq hs
        have HK : Hid (L.contains s = (L.drop (i + 1)).contains s) := by rw [Bool.false_or] at hs; exact hs
        clear hs he
        go_wp2
        go_roundg g'
        case measure => omega
        case rel => exact ⟨i + 1, rfl, by simp, by omega, rfl, HK⟩
      · rw [he] at hq hs
        have HK : Hid (L.contains s = true) := by rw [Bool.true_or] at hs; exact hs
        clear hs he
        go_wp2
        go_ret
        exact ⟨ret_bool (HK.out.symm.trans HB.out), rfl⟩
    · have d0 : decide ((i : Int) < (L.length : Int)) = false := by simp; omega
      have HF : Hid (L.contains s = false) := by have := HK.out; rw [List.drop_of_length_le (by omega)] at this; simpa [Hid] using this
      clear HK
      go_wp2
      go_ret
      exact ⟨ret_bool (HF.out.symm.trans HB.out), rfl⟩
theorem own_below {w w1 : World} (g : Nat) (hg : g < w1.heap.size) {w2 : World} (hb : Below w1.heap.size w1 w2) {L : List Bs} (h : ∀ o (ho : o < L.length), w1.cell? ⟨g, o, none⟩ = some (.string (bs L[o]))) : ∀ o (ho : o < L.length), w2.cell? ⟨g, o, none⟩ = some (.string (bs L[o])) := fun o ho => (hb.cell (p := ⟨g, _, none⟩) hg).trans (h o ho)
end Go.Proofs.YtejcjhoojpoamaaDoor

namespace Go.Proofs.YtejcjhoojpoamaaDoor
set_option linter.unusedVariables false
set_option linter.unusedSimpArgs false
open Go.ChangeShapes Go.WideShapes Go.ChangeAt Go.RowKit
attribute [local go_sem ↓] loadTk_seal storeTk_seal loadKeys_seal loadSigns_seal
attribute [local go_sem] loadTk_run storeTk_run rowAt_at rowAt_old rowAt_drew rowAt_drewN roomTk_new roomAt_old roomAt_drew roomAt_drewN putTk_new Tk.fold putRow_past rowTk_put size_put putRow_drew putRow_drewN alloc_drewN setCell_drewN Tk.at0 Tk.at1 Tk.at2 Tk.at3 Tk.size Tk.set0 Tk.set1 Tk.set2 Tk.set3 Tk.ne rowAt_set rowAt_far roomAt_far

def hexL : Bs := [48, 49, 50, 51, 52, 53, 54, 55, 56, 57, 65, 66, 67, 68, 69, 70]
/-- What a digit of base sixteen says; below 0: it is none. -/
def hexV (c : UInt8) : Int := if digV c.toNat < 16 then digV c.toNat else -1
theorem hexL_at (i : Nat) (h : i < 16) : digV ((hexL[i]'h).toNat : Int) = i := by
  rcases (show i = 0 ∨ i = 1 ∨ i = 2 ∨ i = 3 ∨ i = 4 ∨ i = 5 ∨ i = 6 ∨ i = 7 ∨ i = 8 ∨ i = 9 ∨ i = 10 ∨ i = 11 ∨ i = 12 ∨ i = 13 ∨ i = 14 ∨ i = 15 by omega) with rfl | rfl | rfl | rfl | rfl | rfl | rfl | rfl | rfl | rfl | rfl | rfl | rfl | rfl | rfl | rfl <;> rfl
theorem digV_inj {a b : UInt8} (h : digV a.toNat = digV b.toNat) (hb : digV b.toNat < 16) : a = b := by
  apply UInt8.toNat_inj.1
  unfold digV digI at h hb
  simp only [Bool.and_eq_true, decide_eq_true_eq] at h hb
  split at h <;> split at h <;> (try split at h) <;> (try split at h) <;> (try split at hb) <;> (try split at hb) <;> omega
theorem digV_small {c : UInt8} (h : digV c.toNat < 16) : 0 ≤ digV c.toNat := by
  unfold digV at *
  by_cases h1 : digI (c.toNat : Int) = true
  · rw [if_pos h1]; simp [digI] at h1; omega
  · rw [if_neg h1] at *; split <;> omega
set_option maxRecDepth 20000 in
theorem rhex_any (c : UInt8) (w : World) : Calls Tryd.prog 117 #[.int .u8 (c.toNat : Int)] w fun e w' => e = .returned (.int .i64 (hexV c)) ∧ w' = w := by
  have hl : (bs hexL).size = 16 := rfl
  go_enter Tryd.func117, Tryd.ntmps117
  go_wp2
  go_loopg [2, 4] 16 (fun gf s2 s4 wx => ∃ i : Nat, s2 = .int .i64 0 ∧ s4 = .int .i64 (i : Int) ∧ i + gf = 16 ∧ wx = w ∧ Hid (∀ j (h : j < 16), j < i → hexL[j]'h ≠ c))
  case atStart => exact ⟨0, rfl, rfl, rfl, rfl, fun j _ h => by omega⟩
  case round =>
    obtain ⟨i, rfl, rfl, hi, hww, HN⟩ := hrel
    obtain rfl := hww.symm
    by_cases hlt : i < 16
    · obtain ⟨g', rfl⟩ : ∃ g', gk = g' + 1 := ⟨gk - 1, by omega⟩
      have d0 : decide ((i : Int) < 16) = true := decide_eq_true (by omega)
      have IX : ∀ W, (Instr.index 9 (.string { data := #[48, 49, 50, 51, 52, 53, 54, 55, 56, 57, 65, 66, 67, 68, 69, 70] }) (.int .i64 (i : Int))).run Tryd.prog W = .ok (.int .u8 ((hexL[i]'hlt).toNat : Int)) W := index_str hexL i hlt (i : Int) rfl
      have hv := hexL_at i hlt
      obtain ⟨x, hx⟩ : ∃ x, hexL[i]'hlt = x := ⟨_, rfl⟩
      rw [hx] at IX hv
      by_cases he : x = c
      · subst he
        have HF : Hid (hexV x = (i : Int)) := by unfold hexV; rw [hv, if_pos (by omega)]; rfl
        clear HN hx hv
        go_wp2
        go_ret
        exact ⟨ret_int HF.out.symm, rfl⟩
      · have ne : ((x.toNat : Int) == (c.toNat : Int)) = false := by
          rw [beq_eq_false_iff_ne]; intro e; exact he (UInt8.toNat_inj.1 (by omega))
        have HM : Hid (∀ j (h : j < 16), j < i + 1 → hexL[j]'h ≠ c) := fun j h hj => by
          by_cases e : j = i
          · subst e; rw [hx]; exact he
          · exact HN.out j h (by omega)
        clear HN hx hv
        go_wp2
        go_roundg g'
        case measure => omega
        case rel => exact ⟨i + 1, rfl, by simp, by omega, rfl, HM⟩
    · have d0 : decide ((i : Int) < 16) = false := decide_eq_false (by omega)
      have HF : Hid (hexV c = -1) := by
        unfold hexV
        by_cases h : digV (c.toNat : Int) < 16
        · exfalso
          have h0 := digV_small h
          obtain ⟨k, hk⟩ : ∃ k : Nat, digV (c.toNat : Int) = k := ⟨(digV (c.toNat : Int)).toNat, by omega⟩
          have hk16 : k < 16 := by omega
          exact HN.out k hk16 (by omega) (digV_inj (by rw [hexL_at k hk16, hk]) h)
        · rw [if_neg h]; rfl
      clear HN
      go_wp2
      go_ret
      exact ⟨ret_int HF.out.symm, rfl⟩
set_option maxHeartbeats 1000000 in
set_option maxRecDepth 20000 in
theorem rbased_any (l : Bs) (hl : l.length ≤ 1000000000) (most : Int) (hm0 : 0 ≤ most) (hm1 : most ≤ 4294967295) (w : World) :
    Calls Tryd.prog 95 #[.string (bs l), .int .i64 most] w fun e w' => e = .returned (.tuple #[.int .i64 ((valP 16 most 0 l).getD 0), .bool (valP 16 most 0 l).isSome]) ∧ w' = w := by
  have hz := bs_size l
  obtain ⟨v, hv⟩ : ∃ v, valP 16 most 0 l = v := ⟨_, rfl⟩
  rw [hv]
  go_enter Tryd.func95, Tryd.ntmps95
  go_wp2
  go_loopg [4, 5, 6, 7] l.length (fun gf s4 s5 s6 s7 wx => ∃ (p : Nat) (n : Int), s4 = .int .i64 0 ∧ s5 = .bool false ∧ s6 = .int .i64 n ∧ s7 = .int .i64 (p : Int) ∧ p + gf = l.length ∧ wx = w ∧ 0 ≤ n ∧ n ≤ most ∧ Hid (valP 16 most n (l.drop p) = v))
  case atStart => exact ⟨0, 0, rfl, rfl, rfl, rfl, by omega, rfl, by omega, hm0, hv⟩
  case round =>
    obtain ⟨p, n, rfl, rfl, rfl, rfl, hp, hww, hn0, hn1, HV⟩ := hrel
    obtain rfl := hww.symm
    clear hv
    by_cases hlt : p < l.length
    · obtain ⟨g', rfl⟩ : ∃ g', gk = g' + 1 := ⟨gk - 1, by omega⟩
      have d0 : decide ((p : Int) < (l.length : Int)) = true := decide_eq_true (by omega)
      have IX := index_str l p hlt (p : Int) rfl
      have hV := HV.out
      rw [drop_cons hlt, valP] at hV
      obtain ⟨c, hc⟩ : ∃ c, l[p]'hlt = c := ⟨_, rfl⟩
      rw [hc] at IX hV
      have HX := fun W => rhex_any c W
      have hx : hexV c = if digV c.toNat < 16 then digV c.toNat else -1 := rfl
      have hs := digV_small (c := c)
      obtain ⟨D, hD⟩ : ∃ D, digV (c.toNat : Int) = D := ⟨_, rfl⟩
      rw [hD] at hV hx hs
      clear HV hc hD
      by_cases h1 : (16 : Int) ≤ D
      · rw [if_pos h1] at hV
        rw [if_neg (by omega)] at hx
        rw [hx] at HX
        subst hV
        clear hs hx
        go_wp2_with (go_at_call 117; refine (HX _).mono ?_; rintro e W' ⟨rfl, hw⟩; rw [hw]; clear hw)
        go_ret2
        exact ⟨rfl, rfl⟩
      · rw [if_neg h1] at hV
        rw [if_pos (by omega)] at hx
        rw [hx] at HX
        have hD0 := hs (by omega)
        have g0 : decide (D < 0) = false := decide_eq_false (by omega)
        have hcm : n * 16 + D = 16 * n + D := by omega
        rw [hcm] at hV
        clear hs hx
        by_cases h2 : most < 16 * n + D
        · rw [if_pos h2] at hV
          have g2 : decide (most < 16 * n + D) = true := decide_eq_true h2
          subst hV
          go_wp2_with (go_at_call 117; refine (HX _).mono ?_; rintro e W' ⟨rfl, hw⟩; rw [hw]; clear hw)
          go_ret2
          exact ⟨rfl, rfl⟩
        · rw [if_neg h2] at hV
          have g2 : decide (most < 16 * n + D) = false := decide_eq_false h2
          have HV : Hid (valP 16 most (16 * n + D) (l.drop (p + 1)) = v) := hV
          clear hV
          go_wp2_with (go_at_call 117; refine (HX _).mono ?_; rintro e W' ⟨rfl, hw⟩; rw [hw]; clear hw)
          go_roundg g'
          case measure => omega
          case rel => exact ⟨p + 1, 16 * n + D, rfl, rfl, by simp, by simp, by omega, rfl, by omega, by omega, HV⟩
    · have d0 : decide ((p : Int) < (l.length : Int)) = false := decide_eq_false (by omega)
      have hV := HV.out
      rw [List.drop_of_length_le (by omega), valP] at hV
      subst hV
      clear HV
      go_wp2
      go_ret2
      exact ⟨rfl, rfl⟩
theorem conv_u8_i64 (c : Int) (h0 : 0 ≤ c) (h1 : c < 256) (w : World) : (convert 5 2 (.int .u8 c)).run Tryd.prog w = .ok (.int .i64 c) w := by
  have e : IntKind.i64.wrap c = c := by rw [IntKind.wrap_i64]; omega
  simp [convert, run_underlying Tryd.underlying5, run_underlying Tryd.underlying2, Conv.intToInt, e]
set_option maxHeartbeats 1000000 in
set_option maxRecDepth 20000 in
theorem rdecimal_any (l : Bs) (hl : l.length ≤ 1000000000) (w : World) :
    Calls Tryd.prog 96 #[.string (bs l)] w fun e w' => e = .returned (.tuple #[.int .i64 ((valP 10 2147483647 0 l).getD 0), .bool (valP 10 2147483647 0 l).isSome]) ∧ w' = w := by
  have hz := bs_size l
  obtain ⟨v, hv⟩ : ∃ v, valP 10 2147483647 0 l = v := ⟨_, rfl⟩
  rw [hv]
  go_enter Tryd.func96, Tryd.ntmps96
  go_wp2
  go_loopg [2, 3, 4, 5] l.length (fun gf s2 s3 s4 s5 wx => ∃ (p : Nat) (n : Int), s2 = .int .i64 0 ∧ s3 = .bool false ∧ s4 = .int .i64 n ∧ s5 = .int .i64 (p : Int) ∧ p + gf = l.length ∧ wx = w ∧ 0 ≤ n ∧ n ≤ 2147483647 ∧ Hid (valP 10 2147483647 n (l.drop p) = v))
  case atStart => exact ⟨0, 0, rfl, rfl, rfl, rfl, by omega, rfl, by omega, by omega, hv⟩
  case round =>
    obtain ⟨p, n, rfl, rfl, rfl, rfl, hp, hww, hn0, hn1, HV⟩ := hrel
    obtain rfl := hww.symm
    clear hv
    by_cases hlt : p < l.length
    · obtain ⟨g', rfl⟩ : ∃ g', gk = g' + 1 := ⟨gk - 1, by omega⟩
      have d0 : decide ((p : Int) < (l.length : Int)) = true := decide_eq_true (by omega)
      have IX := index_str l p hlt (p : Int) rfl
      have hV := HV.out
      rw [drop_cons hlt, valP] at hV
      obtain ⟨c, hc⟩ : ∃ c, l[p]'hlt = c := ⟨_, rfl⟩
      rw [hc] at IX hV
      have DG := fun W => rdigit_any (c.toNat : Int) W
      have hd : digV (c.toNat : Int) = if digI c.toNat then (c.toNat : Int) - 48 else if 65 ≤ (c.toNat : Int) ∧ (c.toNat : Int) ≤ 70 then (c.toNat : Int) - 55 else 9223372036854775807 := rfl
      clear HV hc
      cases h1 : digI c.toNat
      · rw [h1] at DG hd
        rw [if_neg (by simp)] at hd
        have h10 : (10 : Int) ≤ digV c.toNat := by rw [hd]; split <;> omega
        rw [if_pos h10] at hV
        subst hV
        clear hd h10
        go_wp2_with (go_at_call 70; refine (DG _).mono ?_; rintro e W' ⟨rfl, hw⟩; rw [hw]; clear hw)
        go_ret2
        exact ⟨rfl, rfl⟩
      · rw [h1] at DG hd
        rw [if_pos rfl] at hd
        have hr : 48 ≤ (c.toNat : Int) ∧ (c.toNat : Int) ≤ 57 := by simpa [digI] using h1
        rw [hd, if_neg (by omega)] at hV
        have hcm : n * 10 + ((c.toNat : Int) - 48) = 10 * n + ((c.toNat : Int) - 48) := by omega
        rw [hcm] at hV
        have CV := conv_u8_i64 ((c.toNat : Int) - 48) (by omega) (by omega)
        have kw : IntKind.u8.wrap ((c.toNat : Int) - 48) = (c.toNat : Int) - 48 := by rw [IntKind.wrap_u8]; omega
        clear hd h1
        by_cases h2 : 2147483647 < 10 * n + ((c.toNat : Int) - 48)
        · rw [if_pos h2] at hV
          have g2 : decide (2147483647 < 10 * n + ((c.toNat : Int) - 48)) = true := decide_eq_true h2
          subst hV
          go_wp2_with (go_at_call 70; refine (DG _).mono ?_; rintro e W' ⟨rfl, hw⟩; rw [hw]; clear hw)
          go_ret2
          exact ⟨rfl, rfl⟩
        · rw [if_neg h2] at hV
          have g2 : decide (2147483647 < 10 * n + ((c.toNat : Int) - 48)) = false := decide_eq_false h2
          have HV : Hid (valP 10 2147483647 (10 * n + ((c.toNat : Int) - 48)) (l.drop (p + 1)) = v) := hV
          clear hV
          go_wp2_with (go_at_call 70; refine (DG _).mono ?_; rintro e W' ⟨rfl, hw⟩; rw [hw]; clear hw)
          go_roundg g'
          case measure => omega
          case rel => exact ⟨p + 1, 10 * n + ((c.toNat : Int) - 48), rfl, rfl, by simp, by simp, by omega, rfl, by omega, by omega, HV⟩
    · have d0 : decide ((p : Int) < (l.length : Int)) = false := decide_eq_false (by omega)
      have hV := HV.out
      rw [List.drop_of_length_le (by omega), valP] at hV
      subst hV
      clear HV
      go_wp2
      go_ret2
      exact ⟨rfl, rfl⟩
end Go.Proofs.YtejcjhoojpoamaaDoor

namespace Go.Proofs.YtejcjhoojpoamaaDoor
set_option linter.unusedVariables false
set_option linter.unusedSimpArgs false
open Go.ChangeShapes Go.WideShapes Go.ChangeAt Go.RowKit
attribute [local go_sem ↓] loadTk_seal storeTk_seal loadKeys_seal loadSigns_seal
attribute [local go_sem] loadTk_run storeTk_run rowAt_at rowAt_old rowAt_drew rowAt_drewN roomTk_new roomAt_old roomAt_drew roomAt_drewN putTk_new Tk.fold putRow_past rowTk_put size_put putRow_drew putRow_drewN alloc_drewN setCell_drewN Tk.at0 Tk.at1 Tk.at2 Tk.at3 Tk.size Tk.set0 Tk.set1 Tk.set2 Tk.set3 Tk.ne rowAt_set rowAt_far roomAt_far

theorem quoP_200 : ∀ (l : Bs) (k : Nat), 200 < k → quoP k l = none ∨ ∃ n, quoP k l = some n ∧ 200 < n
  | [], _, _ => .inl rfl
  | c :: r, k, h => by
    rw [quoP]
    split
    · exact .inr ⟨k, rfl, h⟩
    · split
      · exact .inl rfl
      · exact quoP_200 r (k + 1) (by omega)
def quoE (p : Nat) : Option Nat → Int
  | some k => ((p + 1 + k + 1 : Nat) : Int)
  | none => -1
/-- The search for a quote, by the document: at most so many bytes. -/
def quoD (k : Nat) (l : Bs) : Option Nat := if k ≤ 200 then quoP k l else none
set_option maxRecDepth 20000 in
theorem rquoted_any (l : Bs) (hl : l.length ≤ 1000000000) (p : Nat) (hp : p < l.length) (w : World) : Calls Tryd.prog 74 #[.string (bs l), .int .i64 (p : Int)] w fun e w' => e = .returned (.int .i64 (quoE p (quoP 0 (l.drop (p + 1))))) ∧ w' = w := by
  have hz := bs_size l
  obtain ⟨r, hr⟩ : ∃ r, quoP 0 (l.drop (p + 1)) = r := ⟨_, rfl⟩
  rw [hr]
  have HR : Hid (quoD 0 (l.drop (p + 1 + 0)) = r) := hr
  clear hr
  go_enter Tryd.func74, Tryd.ntmps74
  go_wp2
  go_loopg [4, 5] (l.length - p) (fun gf s4 s5 wx => ∃ k : Nat, s4 = .int .i64 0 ∧ s5 = .int .i64 ((p + 1 + k : Nat) : Int) ∧ p + 1 + k ≤ l.length ∧ l.length ≤ p + 1 + k + gf ∧ wx = w ∧ Hid (quoD k (l.drop (p + 1 + k)) = r))
  case atStart => exact ⟨0, rfl, by simp, by omega, by omega, rfl, HR⟩
  case round =>
    obtain ⟨k, rfl, rfl, hk1, hk2, hww, HQ⟩ := hrel
    obtain rfl := hww.symm
    clear HR
    have ks : ((p + 1 + k : Nat) : Int) - (p : Int) - 1 = (k : Int) := by omega
    by_cases hlt : p + 1 + k < l.length
    · have d0 : decide (((p + 1 + k : Nat) : Int) < (l.length : Int)) = true := decide_eq_true (by omega)
      by_cases h200 : k ≤ 200
      · obtain ⟨g', rfl⟩ : ∃ g', gk = g' + 1 := ⟨gk - 1, by omega⟩
        have d1 : decide (((p + 1 + k : Nat) : Int) - (p : Int) - 1 ≤ 200) = true := decide_eq_true (by omega)
        have d1' : decide ((k : Int) ≤ 200) = true := decide_eq_true (by omega)
        have IX := index_str l (p + 1 + k) hlt ((p + 1 + k : Nat) : Int) rfl
        have hQ := HQ.out
        unfold quoD at hQ
        rw [if_pos h200, drop_cons hlt, quoP] at hQ
        obtain ⟨c, hc⟩ : ∃ c, l[p + 1 + k]'hlt = c := ⟨_, rfl⟩
        rw [hc] at IX hQ
        have hc8 := c.toNat_lt
        clear HQ hc
        by_cases h34 : c = 34
        · rw [if_pos h34] at hQ
          subst h34
          have HF : Hid (r = some k) := hQ.symm
          clear hQ
          generalize hP : p + 1 + k = P at *
          go_wp2
          go_ret
          exact ⟨ret_int (by rw [HF.out]; simp [quoE]; omega), rfl⟩
        · rw [if_neg h34] at hQ
          have n34 : ((c.toNat : Int) == 34) = false := u8_ne (k := 34) (by omega) h34
          by_cases hb : c.toNat < 32 ∨ 126 < c.toNat
          · rw [if_pos (by omega)] at hQ
            have HF : Hid (r = none) := hQ.symm
            clear hQ
            generalize p + 1 + k = P at *
            by_cases h32 : c.toNat < 32
            · have k1 : decide ((c.toNat : Int) < 32) = true := decide_eq_true (by omega)
              go_wp2
              go_ret
              exact ⟨ret_int (by rw [HF.out]; rfl), rfl⟩
            · have k1 : decide ((c.toNat : Int) < 32) = false := decide_eq_false (by omega)
              have k2 : decide ((126 : Int) < (c.toNat : Int)) = true := decide_eq_true (by omega)
              go_wp2
              go_ret
              exact ⟨ret_int (by rw [HF.out]; rfl), rfl⟩
          · have k1 : decide ((c.toNat : Int) < 32) = false := decide_eq_false (by omega)
            have k2 : decide ((126 : Int) < (c.toNat : Int)) = false := decide_eq_false (by omega)
            have HN : Hid (quoD (k + 1) (l.drop (p + 1 + (k + 1))) = r) := by
              show quoD (k + 1) (l.drop (p + 1 + (k + 1))) = r
              unfold quoD
              by_cases h2 : k = 200
              · rw [if_pos (by omega)] at hQ
                rw [if_neg (by omega)]; exact hQ
              · rw [if_neg (by omega)] at hQ
                rw [if_pos (by omega)]; exact hQ
            clear hQ
            generalize hP : p + 1 + k = P at *
            go_wp2
            go_roundg g'
            case measure => omega
            case rel => exact ⟨k + 1, rfl, by first | rfl | (congr 1; omega), by omega, by omega, rfl, HN⟩
      · have d1 : decide (((p + 1 + k : Nat) : Int) - (p : Int) - 1 ≤ 200) = false := decide_eq_false (by omega)
        have d1' : decide ((k : Int) ≤ 200) = false := decide_eq_false (by omega)
        have HF : Hid (r = none) := by rw [← HQ.out]; unfold quoD; rw [if_neg h200]; rfl
        clear HQ
        generalize hP : p + 1 + k = P at *
        go_wp2
        go_ret
        exact ⟨ret_int (by rw [HF.out]; rfl), rfl⟩
    · have d0 : decide (((p + 1 + k : Nat) : Int) < (l.length : Int)) = false := decide_eq_false (by omega)
      have HF : Hid (r = none) := by
        rw [← HQ.out, List.drop_of_length_le (by omega)]; unfold quoD; split <;> rfl
      clear HQ
      generalize hP : p + 1 + k = P at *
      go_wp2
      go_ret
      exact ⟨ret_int (by rw [HF.out]; rfl), rfl⟩
def signOf (l : Bs) : Bs := (signsL.find? fun s => s.isPrefixOf l).getD []
theorem pre_bool (s x : Bs) : (x.take s.length == s) = s.isPrefixOf x := by
  rw [Bool.eq_iff_iff, List.isPrefixOf_iff_prefix, beq_iff_eq]
  constructor
  · intro h; rw [← h]; exact List.take_prefix _ _
  · rintro ⟨t, rfl⟩; simp
theorem slice_mid2 (l : Bs) (k n : Nat) (h : k + n ≤ l.length) (w : World) : (Instr.slice 9 (.string (bs l)) (some (.int .i64 (k : Int))) (some (.int .i64 ((k : Int) + (n : Int)))) none).run Tryd.prog w = .ok (.string (bs ((l.drop k).take n))) w := by
  rw [run_slice_string w 9 (bs l) .i64 .i64 (k : Int) ((k : Int) + (n : Int)) Tryd.underlying9 (by omega) (by omega) (by rw [bs_size]; omega)]
  have e : ((k : Int) + (n : Int)).toNat = k + n := by omega
  rw [e, Int.toNat_natCast, bs_mid, show k + n - k = n by omega]
set_option maxHeartbeats 2000000 in
set_option maxRecDepth 20000 in
theorem rsign_any (l : Bs) (hl : l.length ≤ 1000000000) (p : Nat) (hp : p ≤ l.length) (w : World) : Calls Tryd.prog 75 #[.string (bs l), .int .i64 (p : Int)] w fun e w' => e = .returned (.string (bs (signOf (l.drop p)))) ∧ Below w.heap.size w w' := by
  have hz := bs_size l
  obtain ⟨r, hr⟩ : ∃ r, signOf (l.drop p) = r := ⟨_, rfl⟩
  rw [hr]
  have HR : Hid (((signsL.drop 0).find? fun s => s.isPrefixOf (l.drop p)).getD [] = r) := hr
  clear hr
  go_enter Tryd.func75, Tryd.ntmps75
  go_wp2_with (go_at_call 97; refine (rsigns_any _).mono ?_; rintro e w1 ⟨g, rfl, hg1, hg2, hgc, hb1⟩)
  have HC : Hid (∀ o (ho : o < signsL.length), w1.cell? ⟨g, o, none⟩ = some (.string (bs signsL[o]))) := hgc
  clear hgc
  go_loopg [4, 6, 7] 26 (fun gf s4 s6 s7 wx => ∃ i n : Nat, s4 = .string ⟨#[]⟩ ∧ s6 = .int .i64 (i : Int) ∧ i + gf = 26 ∧ wx = w1.drewN n ∧ Hid (((signsL.drop i).find? fun s => s.isPrefixOf (l.drop p)).getD [] = r))
  case atStart => exact ⟨0, 0, rfl, rfl, rfl, by rw [World.drewN_zero], HR⟩
  case round =>
    obtain ⟨i, m, rfl, rfl, hi, hww, HK⟩ := hrel
    subst hww
    clear HR
    by_cases hlt : i < 26
    · obtain ⟨g', rfl⟩ : ∃ g', gk = g' + 1 := ⟨gk - 1, by omega⟩
      have d0 : decide ((i : Int) < 26) = true := decide_eq_true (by omega)
      have hcl := HC.out i hlt
      have hd : signsL.drop i = signsL[i]'hlt :: signsL.drop (i + 1) := List.drop_eq_getElem_cons hlt
      have hx2 := signs_one (signsL[i]'hlt) (List.getElem_mem _)
      obtain ⟨x, hx⟩ : ∃ x, signsL[i]'hlt = x := ⟨_, rfl⟩
      rw [hx] at hcl hd hx2
      have hxz := bs_size x
      have HK := HK.out
      rw [hd, find_cons'] at HK
      clear hx hd HC
      have kw1 : IntKind.i64.wrap ((l.length : Int) - (p : Int)) = (l.length : Int) - (p : Int) := by rw [IntKind.wrap_i64]; omega
      have kw2 : IntKind.i64.wrap ((p : Int) + (x.length : Int)) = (p : Int) + (x.length : Int) := by rw [IntKind.wrap_i64]; omega
      have b1 : (0 : Int) ≤ (i : Int) := by omega
      have b2 : (i : Int) < 26 := by omega
      by_cases hln : p + x.length ≤ l.length
      · have d1 : decide ((x.length : Int) ≤ (l.length : Int) - (p : Int)) = true := decide_eq_true (by omega)
        have SL := slice_mid2 l p x.length hln
        have hq := str_eq ((l.drop p).take x.length) x
        rw [pre_bool] at hq
        generalize bs ((l.drop p).take x.length) = y at *
        generalize x.length = xn at *
        cases he : x.isPrefixOf (l.drop p)
        · rw [he] at HK hq
          have HN : Hid (((signsL.drop (i + 1)).find? fun s => s.isPrefixOf (l.drop p)).getD [] = r) := HK
          clear HK he
          go_wp2
          go_quiet (fail)
          go_wp2
          go_roundg g'
          case measure => omega
          case rel => exact ⟨i + 1, _, rfl, by simp, by omega, rfl, HN⟩
        · rw [he] at HK hq
          have HF : Hid (x = r) := HK
          clear HK he
          go_wp2
          go_quiet (fail)
          go_wp2
          go_ret
          exact ⟨ret_str (by rw [HF.out]), bdrewN hb1 _⟩
      · have d1 : decide ((x.length : Int) ≤ (l.length : Int) - (p : Int)) = false := decide_eq_false (by omega)
        have he : x.isPrefixOf (l.drop p) = false := by
          cases he : x.isPrefixOf (l.drop p)
          · rfl
          · have := (List.isPrefixOf_iff_prefix.1 he).length_le
            rw [List.length_drop] at this; omega
        rw [he] at HK
        have HN : Hid (((signsL.drop (i + 1)).find? fun s => s.isPrefixOf (l.drop p)).getD [] = r) := HK
        clear HK he
        generalize x.length = xn at *
        go_wp2
        go_region
        go_wp2
        go_roundg g'
        case measure => omega
        case rel => exact ⟨i + 1, _, rfl, by simp, by omega, rfl, HN⟩
    · obtain rfl : i = 26 := by omega
      have HF : Hid ([] = r) := HK.out
      clear HK HC
      go_wp2
      go_ret
      exact ⟨ret_str (by rw [← HF.out]; rfl), bdrewN hb1 _⟩
end Go.Proofs.YtejcjhoojpoamaaDoor

namespace Go.Proofs.YtejcjhoojpoamaaDoor
set_option linter.unusedVariables false
set_option linter.unusedSimpArgs false
open Go.ChangeShapes Go.WideShapes Go.ChangeAt Go.RowKit
attribute [local go_sem ↓] loadTk_seal storeTk_seal loadKeys_seal loadSigns_seal
attribute [local go_sem] loadTk_run storeTk_run rowAt_at rowAt_old rowAt_drew rowAt_drewN roomTk_new roomAt_old roomAt_drew roomAt_drewN putTk_new Tk.fold putRow_past rowTk_put size_put putRow_drew putRow_drewN alloc_drewN setCell_drewN Tk.at0 Tk.at1 Tk.at2 Tk.at3 Tk.size Tk.set0 Tk.set1 Tk.set2 Tk.set3 Tk.ne rowAt_set rowAt_far roomAt_far

theorem ret2c {P : Program} {fn : Func} {R : Ending → World → Prop} {a : Act} {w : World} {p q : Tmp} {ty : TypeId} {ad : Addr} {v x : Value} (h : fn.results = #[.cell p ty, .tmp q]) (hp : a.tmps.getD p undef = .pointer (some ad)) (hl : (loadVar ty ad).run P w = .ok v w) (hd : a.defers = []) (hx : a.tmps.getD q undef = x) (hR : R (.returned (.tuple #[v, x])) w) : bodyPost P fn R .ret a w :=
  ret_cell_tmp h hp hl hd (by rw [hx]; exact hR)
/-- What the document's number tells: a token, and whether it is one. -/
def NumIs (l : Bs) (p : Nat) (v : Value) : Prop := ∃ T : Tk, v = .tuple #[.agg T.cells, .bool ((numP l).e == 0)] ∧ ((numP l).e = 0 → T = ⟨(numP l).k, bs (numP l).t, (numP l).n, p⟩)
set_option maxHeartbeats 1000000 in
set_option maxRecDepth 20000 in
theorem rnumber_any (l : Bs) (hl : l.length ≤ 1000000000) (hl0 : 0 < l.length) (p : Nat) (w : World) : Calls Tryd.prog 73 #[.string (bs l), .int .i64 (p : Int)] w fun e w' => ∃ v, e = .returned v ∧ NumIs l p v ∧ Below w.heap.size w w' := by
  have hz := bs_size l
  have hi1 : l.length - 1 < l.length := by omega
  have hsub : IntKind.i64.wrap ((l.length : Int) - 1) = (l.length : Int) - 1 := by rw [IntKind.wrap_i64]; omega
  have SL : ∀ W, _ := slice_hz l (l.length - 1) (by omega) ((l.length : Int) - 1) (by omega)
  have IX : ∀ W, _ := index_str l (l.length - 1) hi1 ((l.length : Int) - 1) (by omega)
  obtain ⟨x, hx⟩ : ∃ x, l[l.length - 1]'hi1 = x := ⟨_, rfl⟩
  have hnum := numP_at hi1 x hx
  rw [hx] at IX
  have hx8 := x.toNat_lt
  have V1 := fun W => rbased_any (l.take (l.length - 1)) (by rw [List.length_take]; omega) 4294967295 (by omega) (by omega) W
  have V2 := fun W => rbased_any (l.take (l.length - 1)) (by rw [List.length_take]; omega) 255 (by omega) (by omega) W
  have V3 := fun W => rdecimal_any l hl W
  have NI : Hid (∀ v, NumIs l p v ↔ ∃ T : Tk, v = .tuple #[.agg T.cells, .bool ((numP l).e == 0)] ∧ ((numP l).e = 0 → T = ⟨(numP l).k, bs (numP l).t, (numP l).n, p⟩)) := fun v => Iff.rfl
  generalize numP l = r at *
  clear hx
  by_cases h72 : x = 72
  · rw [if_pos h72] at hnum
    subst h72
    have R1 := valP_range 16 4294967295 (by omega) (l.take (l.length - 1)) 0
    have VV := V1
    clear V1 V2 V3
    generalize l.take (l.length - 1) = d at *
    cases hv : valP 16 4294967295 0 d with
    | none =>
      rw [hv] at hnum VV
      subst hnum
      clear R1 hv
      go_enter Tryd.func73, Tryd.ntmps73
      go_wp2_with (go_at_call 95; refine (VV _).mono ?_; rintro e W' ⟨rfl, hw⟩; rw [hw]; clear hw)
      refine ret2c rfl rfl (loadTk_row (rowAt_at _ _ _ _ _ rfl)) rfl rfl ⟨_, rfl, (NI.out _).2 ⟨_, rfl, fun h => by simp [numT, Rd.bad] at h⟩, (Below.refl _ _).alloc (Nat.le_refl _) _⟩
    | some v =>
      rw [hv] at hnum VV
      obtain ⟨v0, v1⟩ := R1 v (by omega) (by omega) hv
      have hnum2 : r = ⟨3, [], sgnd v, l.length, 0⟩ := hnum
      have hsg : sgnd v = if 2147483648 ≤ v then v - 4294967296 else v := rfl
      subst hnum2
      clear R1 hv hnum
      by_cases hbig : 2147483648 ≤ v
      · rw [if_pos hbig] at hsg
        have k1 : decide (2147483648 ≤ v) = true := decide_eq_true hbig
        have HS : Hid (sgnd v = v - 4294967296) := hsg
        clear hsg
        go_enter Tryd.func73, Tryd.ntmps73
        go_wp2_with (go_at_call 95; refine (VV _).mono ?_; rintro e W' ⟨rfl, hw⟩; rw [hw]; clear hw)
        refine ret2c rfl rfl (loadTk_row (rowAt_at _ _ _ _ _ rfl)) rfl rfl ⟨_, rfl, (NI.out _).2 ⟨_, rfl, fun _ => ?_⟩, (Below.refl _ _).alloc (Nat.le_refl _) _⟩
        rw [HS.out]; rfl
      · rw [if_neg hbig] at hsg
        have k1 : decide (2147483648 ≤ v) = false := decide_eq_false hbig
        have HS : Hid (sgnd v = v) := hsg
        clear hsg
        go_enter Tryd.func73, Tryd.ntmps73
        go_wp2_with (go_at_call 95; refine (VV _).mono ?_; rintro e W' ⟨rfl, hw⟩; rw [hw]; clear hw)
        refine ret2c rfl rfl (loadTk_row (rowAt_at _ _ _ _ _ rfl)) rfl rfl ⟨_, rfl, (NI.out _).2 ⟨_, rfl, fun _ => ?_⟩, (Below.refl _ _).alloc (Nat.le_refl _) _⟩
        rw [HS.out]; rfl
  · rw [if_neg h72] at hnum
    have n72 : ((x.toNat : Int) == 72) = false := u8_ne (k := 72) (by omega) h72
    by_cases h88 : x = 88
    · rw [if_pos h88] at hnum
      subst h88
      have VV := V2
      clear V1 V2 V3
      generalize l.take (l.length - 1) = d at *
      cases hv : valP 16 255 0 d with
      | none =>
        rw [hv] at hnum VV
        subst hnum
        go_enter Tryd.func73, Tryd.ntmps73
        go_wp2_with (go_at_call 95; refine (VV _).mono ?_; rintro e W' ⟨rfl, hw⟩; rw [hw]; clear hw)
        refine ret2c rfl rfl (loadTk_row (rowAt_at _ _ _ _ _ rfl)) rfl rfl ⟨_, rfl, (NI.out _).2 ⟨_, rfl, fun h => by simp [numT, Rd.bad] at h⟩, (Below.refl _ _).alloc (Nat.le_refl _) _⟩
      | some v =>
        rw [hv] at hnum VV
        have hnum2 : r = ⟨4, [], v, l.length, 0⟩ := hnum
        subst hnum2
        clear hv hnum
        go_enter Tryd.func73, Tryd.ntmps73
        go_wp2_with (go_at_call 95; refine (VV _).mono ?_; rintro e W' ⟨rfl, hw⟩; rw [hw]; clear hw)
        refine ret2c rfl rfl (loadTk_row (rowAt_at _ _ _ _ _ rfl)) rfl rfl ⟨_, rfl, (NI.out _).2 ⟨_, rfl, fun _ => rfl⟩, (Below.refl _ _).alloc (Nat.le_refl _) _⟩
    · rw [if_neg h88] at hnum
      have n88 : ((x.toNat : Int) == 88) = false := u8_ne (k := 88) (by omega) h88
      have VV := V3
      clear V1 V2 V3
      generalize l.take (l.length - 1) = d at *
      cases hv : valP 10 2147483647 0 l with
      | none =>
        rw [hv] at hnum VV
        subst hnum
        clear hv
        go_enter Tryd.func73, Tryd.ntmps73
        go_wp2_with (go_at_call 96; refine (VV _).mono ?_; rintro e W' ⟨rfl, hw⟩; rw [hw]; clear hw)
        refine ret2c rfl rfl (loadTk_row (rowAt_at _ _ _ _ _ rfl)) rfl rfl ⟨_, rfl, (NI.out _).2 ⟨_, rfl, fun h => by simp [numT, Rd.bad] at h⟩, (Below.refl _ _).alloc (Nat.le_refl _) _⟩
      | some v =>
        rw [hv] at hnum VV
        have hnum2 : r = ⟨3, [], v, l.length, 0⟩ := hnum
        subst hnum2
        clear hv hnum
        go_enter Tryd.func73, Tryd.ntmps73
        go_wp2_with (go_at_call 96; refine (VV _).mono ?_; rintro e W' ⟨rfl, hw⟩; rw [hw]; clear hw)
        refine ret2c rfl rfl (loadTk_row (rowAt_at _ _ _ _ _ rfl)) rfl rfl ⟨_, rfl, (NI.out _).2 ⟨_, rfl, fun _ => rfl⟩, (Below.refl _ _).alloc (Nat.le_refl _) _⟩
end Go.Proofs.YtejcjhoojpoamaaDoor

namespace Go.Proofs.YtejcjhoojpoamaaDoor
set_option linter.unusedVariables false
set_option linter.unusedSimpArgs false
open Go.ChangeShapes Go.WideShapes Go.ChangeAt Go.RowKit
attribute [local go_sem ↓] loadTk_seal storeTk_seal loadKeys_seal loadSigns_seal
attribute [local go_sem] loadTk_run storeTk_run rowAt_at rowAt_old rowAt_drew rowAt_drewN roomTk_new roomAt_old roomAt_drew roomAt_drewN putTk_new Tk.fold putRow_past rowTk_put size_put putRow_drew putRow_drewN alloc_drewN setCell_drewN Tk.at0 Tk.at1 Tk.at2 Tk.at3 Tk.size Tk.set0 Tk.set1 Tk.set2 Tk.set3 Tk.ne rowAt_set rowAt_far roomAt_far

/-- What the document's token tells of what is read at a place. -/
def TokIs (r : Rd) (p : Nat) (v : Value) : Prop := v = if r.e = 0 then .tuple #[.agg (Tk.mk r.k (bs r.t) r.n p).cells, .int .i64 ((p + r.len : Nat) : Int), .int .i64 0] else .tuple #[.agg (Tk.mk 0 ⟨#[]⟩ 0 0).cells, .int .i64 0, .int .i64 r.e]
theorem tok_bad {r : Rd} {p : Nat} {e : Int} (h : r = .bad e) (he : e ≠ 0) : TokIs r p (.tuple #[.agg (Tk.mk 0 ⟨#[]⟩ 0 0).cells, .int .i64 0, .int .i64 e]) := by
  subst h; unfold TokIs; rw [if_neg (show ¬ (Rd.bad e).e = 0 from he)]; rfl
theorem tok_good {r : Rd} {p : Nat} {k n : Int} {t : Bs} {len : Nat} (h : r = ⟨k, t, n, len, 0⟩) : TokIs r p (.tuple #[.agg (Tk.mk k (bs t) n p).cells, .int .i64 ((p + len : Nat) : Int), .int .i64 0]) := by
  subst h; unfold TokIs; rw [if_pos rfl]
theorem tw_mem (p : UInt8 → Bool) : ∀ l : Bs, ∀ x ∈ l.takeWhile p, p x = true
  | [], x, h => by simp at h
  | c :: r, x, h => by
    rw [List.takeWhile_cons] at h
    cases hc : p c
    · rw [hc] at h; simp at h
    · rw [hc, if_pos rfl] at h
      rcases List.mem_cons.1 h with rfl | h
      · exact hc
      · exact tw_mem p r x h
theorem tw_pre (p : UInt8 → Bool) : ∀ l : Bs, l.take (l.takeWhile p).length = l.takeWhile p
  | [] => rfl
  | c :: r => by
    rw [List.takeWhile_cons]
    cases hc : p c
    · simp
    · rw [if_pos rfl, List.length_cons, List.take_succ_cons, tw_pre p r]
theorem name_iff {c : UInt8} {t : Bs} (hl : lett c = true) (hk : isKeyP (wordL (c :: t)) = false) : isNameP (wordL (c :: t)) = decide ((wordL (c :: t)).length ≤ 20) := by
  have hw : wordL (c :: t) = c :: wordL t := word_t (by simp [wch, hl])
  have h2 : wordL (wordL (c :: t)) = wordL (c :: t) := by
    unfold wordL
    have : ∀ x ∈ (c :: t).takeWhile wch, wch x = true := tw_mem wch (c :: t)
    generalize (c :: t).takeWhile wch = L at *
    clear hw hk
    induction L with
    | nil => rfl
    | cons a r ih => rw [List.takeWhile_cons, this a (by simp), if_pos rfl, ih fun x hx => this x (by simp [hx])]
  unfold isNameP
  rw [h2, hk, hw]
  simp [hl]
theorem tk_aft {w w1 : World} {n : Nat} {A B : Tk} {t : TypeId} (hb : Below (((w.alloc (.cells A.cells t)).alloc (.cells B.cells t)).drewN n).heap.size (((w.alloc (.cells A.cells t)).alloc (.cells B.cells t)).drewN n) w1) :
    Below w.heap.size w w1 ∧ roomAt w1 w.heap.size 4 = true ∧ rowAt w1 (w.heap.size + 1) = some B.cells ∧ roomAt w1 (w.heap.size + 1) 4 = true ∧ (∀ j, w1.cell? ⟨w.heap.size + 1, j, none⟩ = B.cells[j]?) ∧ (∀ j, j < 4 → w1.frozen? ⟨w.heap.size + 1, j, none⟩ = false) := num_aft hb
set_option maxHeartbeats 2000000 in
set_option maxRecDepth 20000 in
theorem rtoken_name (l : Bs) (hl : l.length ≤ 1000000000) (p : Nat) (c : UInt8) (t : Bs) (hd : l.drop p = c :: t) (hlt : lett c = true) (w : World) : Calls Tryd.prog 33 #[.string (bs l), .int .i64 (p : Int)] w fun e w' => ∃ v, e = .returned v ∧ TokIs (nameP (wordL (l.drop p))) p v ∧ Below w.heap.size w w' := by
  have hz := bs_size l
  have hp : p < l.length := by
    rcases Nat.lt_or_ge p l.length with h | h
    · exact h
    · rw [List.drop_of_length_le h] at hd; cases hd
  have WD := fun W => rword_any l (by omega) p (by omega) W
  have IX := index_str l p hp (p : Int) rfl
  have hcc : l[p] = c := by have := drop_cons hp; rw [hd] at this; exact (List.cons.inj this).1.symm
  rw [hcc] at IX
  have LT := fun W => rletter_any (c.toNat : Int) W
  have DG := fun W => rdigit_any (c.toNat : Int) W
  have h1 : ltrI (c.toNat : Int) = true := hlt
  rw [h1] at LT
  have hwl := wordL_len (l.drop p)
  rw [List.length_drop] at hwl
  have SL := slice_mid2 l p (wordL (l.drop p)).length (by omega)
  have hpre : (l.drop p).take (wordL (l.drop p)).length = wordL (l.drop p) := tw_pre wch (l.drop p)
  rw [hpre] at SL
  have kw2 : IntKind.i64.wrap ((p : Int) + ((wordL (l.drop p)).length : Int)) = (p : Int) + ((wordL (l.drop p)).length : Int) := by rw [IntKind.wrap_i64]; omega
  have hni : isKeyP (wordL (l.drop p)) = false → isNameP (wordL (l.drop p)) = decide ((wordL (l.drop p)).length ≤ 20) := fun h => by rw [hd] at h ⊢; exact name_iff hlt h
  generalize digI (c.toNat : Int) = dg at DG
  obtain ⟨B, hB⟩ : ∃ B, keysL.contains (wordL (l.drop p)) = B := ⟨_, rfl⟩
  have KI : Hid (∀ g W, (∀ o (ho : o < keysL.length), W.cell? ⟨g, o, none⟩ = some (.string (bs keysL[o]))) → Calls Tryd.prog 71 #[.slice (some ⟨g, 0, none⟩) 32 32, .string (bs (wordL (l.drop p)))] W fun e w' => e = .returned (.bool B) ∧ w' = W) := fun g W hc => risIn_any keysL (by decide) g (wordL (l.drop p)) W hc B hB
  have hkp : isKeyP (wordL (l.drop p)) = B := hB
  have hxs := bs_size (wordL (l.drop p))
  have hN : nameP (wordL (l.drop p)) = if B then ⟨2, wordL (l.drop p), 0, (wordL (l.drop p)).length, 0⟩ else if isNameP (wordL (l.drop p)) then ⟨1, wordL (l.drop p), 0, (wordL (l.drop p)).length, 0⟩ else .bad 84 := by unfold nameP; rw [hkp]
  rw [hkp] at hni
  generalize wordL (l.drop p) = x at *
  generalize nameP x = r at *
  generalize isNameP x = nm at *
  obtain ⟨xn, hxn⟩ : ∃ xn, x.length = xn := ⟨_, rfl⟩
  rw [hxn] at hwl SL kw2 hni hxs hN WD
  clear hd hcc hpre hB hkp hxn
  go_enter Tryd.func33, Tryd.ntmps33
  go_wp2_with (first | (go_at_call 68; refine (WD _).mono ?_; rintro e W' ⟨rfl, hw⟩; rw [hw]; clear hw) | (go_at_call 69; refine (LT _).mono ?_; rintro e W' ⟨rfl, hw⟩; rw [hw]; clear hw) | (go_at_call 70; refine (DG _).mono ?_; rintro e W' ⟨rfl, hw⟩; rw [hw]; clear hw) | fail)
  generalize hX : ((w.alloc (.cells (Tk.mk 0 ⟨#[]⟩ 0 0).cells 38)).alloc (.cells (Tk.mk 1 (bs x) 0 p).cells 38)) = X0 at *
  have s0 : X0.drew.cell? ⟨w.heap.size + 1, 1, none⟩ = some (.string (bs x)) := by
    subst hX
    rw [rowAt_cell (show rowAt _ (w.heap.size + 1) = some (Tk.mk 1 (bs x) 0 p).cells from (rowAt_drew _ _).trans (rowAt_at _ _ _ _ _ (by simp)))]; rfl
  first | (go_region_held (fun X => X.cell? ⟨w.heap.size + 1, 1, none⟩ = some (.string (bs x))) (first | assumption | exact (hb1.cell (p := ⟨w.heap.size + 1, 1, none⟩) (World.block_lt_of_cell? _ _ (by assumption))).trans (by assumption)) (first
    | (go_at_call 72; refine (rkeys_any _).mono ?_; rintro e w1 ⟨g, rfl, hg1, hg2, hgc, hb1⟩; have s1 : w1.cell? ⟨w.heap.size + 1, 1, none⟩ = some (.string (bs x)) := (hb1.cell (p := ⟨w.heap.size + 1, 1, none⟩) (World.block_lt_of_cell? _ _ s0)).trans s0)
    | (go_at_call 71; refine (KI.out g w1 hgc).mono ?_; rintro e W' ⟨rfl, hw⟩; rw [hw]; clear hw))) | fail
  subst hX
  have hb1' : Below (((w.alloc (.cells (Tk.mk 0 ⟨#[]⟩ 0 0).cells 38)).alloc (.cells (Tk.mk 1 (bs x) 0 p).cells 38)).drewN 1).heap.size (((w.alloc (.cells (Tk.mk 0 ⟨#[]⟩ 0 0).cells 38)).alloc (.cells (Tk.mk 1 (bs x) 0 p).cells 38)).drewN 1) w1 := hb1
  obtain ⟨hbl, m0, n1, m1, n2, n3⟩ := tk_aft hb1'
  clear hb1 hb1' s0 s1 hgc KI
  have HN : Hid (r = if B then ⟨2, x, 0, xn, 0⟩ else if nm then ⟨1, x, 0, xn, 0⟩ else .bad 84) := hN
  clear hN
  cases B
  · have hni := hni rfl
    by_cases h20 : xn ≤ 20
    · have k1 : decide ((20 : Int) < (xn : Int)) = false := decide_eq_false (by omega)
      have HF : Hid (r = ⟨1, x, 0, xn, 0⟩) := HN.out.trans (by rw [hni]; simp [h20])
      clear HN hni
      go_wp2
      refine ret3 rfl rfl (loadTk_row (rowTk_put _ _ _ m0)) rfl rfl rfl ⟨_, rfl, ?_, below_put hbl _ (Nat.le_refl _) _⟩
      have := tok_good (p := p) HF.out
      simpa using this
    · have k1 : decide ((20 : Int) < (xn : Int)) = true := decide_eq_true (by omega)
      have HF : Hid (r = .bad 84) := HN.out.trans (by rw [hni]; simp [h20])
      clear HN hni
      go_wp2
      refine ret3 rfl rfl (loadTk_row (rowTk_put _ _ _ m0)) rfl rfl rfl ⟨_, rfl, tok_bad HF.out (by omega), below_put hbl _ (Nat.le_refl _) _⟩
  · have HF : Hid (r = ⟨2, x, 0, xn, 0⟩) := HN.out
    clear HN hni
    go_wp2
    refine ret3 rfl rfl (loadTk_row (rowTk_put _ _ _ (by simp [roomAt_far, m0]))) rfl rfl rfl ⟨_, rfl, ?_, below_put (hbl.setCell (by simp) _) _ (Nat.le_refl _) _⟩
    have := tok_good (p := p) HF.out
    simpa using this
theorem rowAt_old' (w : World) (o : Obj) (b : Nat) {c : Tk} (h : rowAt w b = some c.cells) : rowAt (w.alloc o) b = some c.cells := by
  rw [rowAt_old w o b ?_, h]
  intro e
  subst e
  unfold rowAt at h
  rw [Array.getElem?_eq_none (Nat.le_refl _)] at h
  cases h
theorem numP_len' (w : Bs) : (numP w).e = 0 ∧ (numP w).len = w.length ∨ numP w = .bad 82 := by
  unfold numP
  split
  · cases valP 16 4294967295 0 w.dropLast <;> simp [numT, Rd.bad]
  · split
    · cases valP 16 255 0 w.dropLast <;> simp [numT, Rd.bad]
    · cases valP 10 2147483647 0 w <;> simp [numT, Rd.bad]
set_option maxHeartbeats 2000000 in
set_option maxRecDepth 20000 in
theorem rtoken_num (l : Bs) (hl : l.length ≤ 1000000000) (p : Nat) (c : UInt8) (t : Bs) (hd : l.drop p = c :: t) (hlt : lett c = false) (hdg : dig c = true) (w : World) : Calls Tryd.prog 33 #[.string (bs l), .int .i64 (p : Int)] w fun e w' => ∃ v, e = .returned v ∧ TokIs (numP (wordL (l.drop p))) p v ∧ Below w.heap.size w w' := by
  have hz := bs_size l
  have hp : p < l.length := by
    rcases Nat.lt_or_ge p l.length with h | h
    · exact h
    · rw [List.drop_of_length_le h] at hd; cases hd
  have WD := fun W => rword_any l (by omega) p (by omega) W
  have IX := index_str l p hp (p : Int) rfl
  have hcc : l[p] = c := by have := drop_cons hp; rw [hd] at this; exact (List.cons.inj this).1.symm
  rw [hcc] at IX
  have hc8 := c.toNat_lt
  have LT := fun W => rletter_any (c.toNat : Int) W
  have DG := fun W => rdigit_any (c.toNat : Int) W
  have h1 : ltrI (c.toNat : Int) = false := hlt
  rw [h1] at LT
  have h2 : digI (c.toNat : Int) = true := hdg
  rw [h2] at DG
  have hwl := wordL_len (l.drop p)
  rw [List.length_drop] at hwl
  have SL := slice_mid2 l p (wordL (l.drop p)).length (by omega)
  rw [show (l.drop p).take (wordL (l.drop p)).length = wordL (l.drop p) from tw_pre wch (l.drop p)] at SL
  have kw2 : IntKind.i64.wrap ((p : Int) + ((wordL (l.drop p)).length : Int)) = (p : Int) + ((wordL (l.drop p)).length : Int) := by rw [IntKind.wrap_i64]; omega
  have hw0 : 0 < (wordL (l.drop p)).length := by rw [hd, word_t (by simp [wch, hdg])]; simp
  have hnl := numP_len' (wordL (l.drop p))
  generalize wordL (l.drop p) = x at *
  have NU : Hid (∀ W, Calls Tryd.prog 73 #[.string (bs x), .int .i64 (p : Int)] W fun e w' => ∃ v, e = .returned v ∧ NumIs x p v ∧ Below W.heap.size W w') := fun W => rnumber_any x (by omega) hw0 p W
  obtain ⟨xn, hxn⟩ : ∃ xn, x.length = xn := ⟨_, rfl⟩
  rw [hxn] at hwl SL kw2 WD hnl hw0
  clear hd hcc
  have hxs : x.length ≤ 1000000000 := by omega
  clear hxn
  cases he : (numP x).e == 0
  · have hne : (numP x).e = 82 := by
      rcases hnl with h | h
      · rw [h.1] at he; cases he
      · rw [h]; rfl
    have NB : Hid (∀ W, Calls Tryd.prog 73 #[.string (bs x), .int .i64 (p : Int)] W fun e w' => ∃ T : Tk, e = .returned (.tuple #[.agg T.cells, .bool false]) ∧ Below W.heap.size W w') := fun W => (NU.out W).mono fun e w' ⟨v, h1, ⟨T, h2, _⟩, h3⟩ => ⟨T, by rw [h1, h2, he], h3⟩
    have HF : Hid (numP x = .bad 82) := by
      rcases hnl with h | h
      · rw [h.1] at he; cases he
      · exact h
    clear NU he hne hnl
    generalize numP x = r at *
    go_enter Tryd.func33, Tryd.ntmps33
    go_wp2_with (first | (go_at_call 68; refine (WD _).mono ?_; rintro e W' ⟨rfl, hw⟩; rw [hw]; clear hw) | (go_at_call 69; refine (LT _).mono ?_; rintro e W' ⟨rfl, hw⟩; rw [hw]; clear hw) | (go_at_call 70; refine (DG _).mono ?_; rintro e W' ⟨rfl, hw⟩; rw [hw]; clear hw) | (go_at_call 73; refine (NB.out _).mono ?_; rintro e w1 ⟨T, rfl, hb⟩; obtain ⟨hbl, m0, hs0⟩ := aft1 hb; have m2 : roomAt (w1.alloc (.cells T.cells 38)) w.heap.size 4 = true := (roomAt_old _ _ _ _ hs0).trans m0))
    refine ret3 rfl rfl (loadTk_row (rowAt_old' _ _ _ (rowTk_put _ _ _ m0))) rfl rfl rfl ⟨_, rfl, tok_bad HF.out (by omega), ?_⟩
    exact (below_put hbl _ (Nat.le_refl _) _).alloc (by rw [size_put]; omega) _
  · have hne : (numP x).e = 0 := by simpa using he
    have NB : Hid (∀ W, Calls Tryd.prog 73 #[.string (bs x), .int .i64 (p : Int)] W fun e w' => e = .returned (.tuple #[.agg (Tk.mk (numP x).k (bs (numP x).t) (numP x).n p).cells, .bool true]) ∧ Below W.heap.size W w') := fun W => (NU.out W).mono fun e w' ⟨v, h1, ⟨T, h2, h4⟩, h3⟩ => ⟨by rw [h1, h2, he, h4 hne], h3⟩
    have HF : Hid (numP x = ⟨(numP x).k, (numP x).t, (numP x).n, xn, 0⟩) := by
      rcases hnl with ⟨h5, h6⟩ | h
      · cases hq : numP x with
        | mk k t n len e => rw [hq] at h5 h6; simp only at h5 h6 ⊢; rw [h5, h6]; rfl
      · rw [h] at hne; simp [Rd.bad] at hne
    clear NU he hne hnl
    generalize numP x = r at *
    go_enter Tryd.func33, Tryd.ntmps33
    go_wp2_with (first | (go_at_call 68; refine (WD _).mono ?_; rintro e W' ⟨rfl, hw⟩; rw [hw]; clear hw) | (go_at_call 69; refine (LT _).mono ?_; rintro e W' ⟨rfl, hw⟩; rw [hw]; clear hw) | (go_at_call 70; refine (DG _).mono ?_; rintro e W' ⟨rfl, hw⟩; rw [hw]; clear hw) | (go_at_call 73; refine (NB.out _).mono ?_; rintro e w1 ⟨rfl, hb⟩; obtain ⟨hbl, m0, hs0⟩ := aft1 hb; have m2 : roomAt (w1.alloc (.cells (Tk.mk r.k (bs r.t) r.n p).cells 38)) w.heap.size 4 = true := (roomAt_old _ _ _ _ hs0).trans m0))
    refine ret3 rfl rfl (loadTk_row (rowAt_old' _ _ _ (rowTk_put _ _ _ m0))) rfl rfl rfl ⟨_, rfl, ?_, ?_⟩
    · have := tok_good (p := p) HF.out
      simpa using this
    · exact (below_put hbl _ (Nat.le_refl _) _).alloc (by rw [size_put]; omega) _
set_option maxHeartbeats 2000000 in
set_option maxRecDepth 20000 in
theorem rtoken_quo (l : Bs) (hl : l.length ≤ 1000000000) (p : Nat) (c : UInt8) (t : Bs) (hd : l.drop p = c :: t) (hlt : lett c = false) (hdg : dig c = false) (hq : c = 34) (w : World) : Calls Tryd.prog 33 #[.string (bs l), .int .i64 (p : Int)] w fun e w' => ∃ v, e = .returned v ∧ TokIs (quotedP (l.drop p)) p v ∧ Below w.heap.size w w' := by
  have hz := bs_size l
  have hp : p < l.length := by
    rcases Nat.lt_or_ge p l.length with h | h
    · exact h
    · rw [List.drop_of_length_le h] at hd; cases hd
  have WD := fun W => rword_any l (by omega) p (by omega) W
  have IX := index_str l p hp (p : Int) rfl
  have hcc : l[p] = c := by have := drop_cons hp; rw [hd] at this; exact (List.cons.inj this).1.symm
  rw [hcc] at IX
  have hc8 := c.toNat_lt
  have LT := fun W => rletter_any (c.toNat : Int) W
  have DG := fun W => rdigit_any (c.toNat : Int) W
  have h1 : ltrI (c.toNat : Int) = false := hlt
  rw [h1] at LT
  have h2 : digI (c.toNat : Int) = false := hdg
  rw [h2] at DG
  have hd1 : l.drop (p + 1) = t := by have := drop_cons hp; rw [hd] at this; exact (List.cons.inj this).2.symm
  have QU := fun W => rquoted_any l hl p hp W
  rw [hd1] at QU
  have hQ : quotedP (l.drop p) = quoT t (quoP 0 t) := by rw [hd]; rfl
  rw [hQ]
  subst hq
  have htl : t.length = l.length - (p + 1) := by rw [← hd1, List.length_drop]
  generalize (wordL (l.drop p)).length = xn at *
  cases hv : quoP 0 t with
  | none =>
    rw [hv] at QU
    have QU : Hid (∀ W, Calls Tryd.prog 74 #[.string (bs l), .int .i64 (p : Int)] W fun e w' => e = .returned (.int .i64 (-1)) ∧ w' = W) := QU
    clear hd hcc hQ
    go_enter Tryd.func33, Tryd.ntmps33
    go_wp2_with (first | (go_at_call 68; refine (WD _).mono ?_; rintro e W' ⟨rfl, hw⟩; rw [hw]; clear hw) | (go_at_call 69; refine (LT _).mono ?_; rintro e W' ⟨rfl, hw⟩; rw [hw]; clear hw) | (go_at_call 70; refine (DG _).mono ?_; rintro e W' ⟨rfl, hw⟩; rw [hw]; clear hw) | (go_at_call 74; refine (QU.out _).mono ?_; rintro e W' ⟨rfl, hw⟩; rw [hw]; clear hw))
    refine ret3 rfl rfl (loadTk_row (rowAt_at _ _ _ _ _ rfl)) rfl rfl rfl ⟨_, rfl, tok_bad rfl (by omega), (Below.refl _ _).alloc (Nat.le_refl _) _⟩
  | some k =>
    rw [hv] at QU
    have hk := quoP_le _ _ _ hv
    have QU : Hid (∀ W, Calls Tryd.prog 74 #[.string (bs l), .int .i64 (p : Int)] W fun e w' => e = .returned (.int .i64 ((p + 1 + k + 1 : Nat) : Int)) ∧ w' = W) := QU
    have SL : ∀ W, (Instr.slice 9 (.string (bs l)) (some (.int .i64 ((p : Int) + 1))) (some (.int .i64 (((p + 1 + k + 1 : Nat) : Int) - 1))) none).run Tryd.prog W = .ok (.string (bs (t.take k))) W := fun W => by
      have := slice_mid2 l (p + 1) k (by omega) W
      rw [hd1] at this
      rw [show ((p : Int) + 1) = ((p + 1 : Nat) : Int) by omega, show (((p + 1 + k + 1 : Nat) : Int) - 1) = ((p + 1 : Nat) : Int) + (k : Int) by omega]
      exact this
    have k1 : decide (((p + 1 + k + 1 : Nat) : Int) < 0) = false := decide_eq_false (by omega)
    have hP : p + 1 + k + 1 ≤ l.length := by omega
    have HF : Hid (∀ P, P = p + 1 + k + 1 → TokIs (quoT t (some k)) p (.tuple #[.agg (Tk.mk 5 (bs (t.take k)) 0 p).cells, .int .i64 (P : Int), .int .i64 0])) := fun P h => by
      have := tok_good (p := p) (show quoT t (some k) = ⟨5, t.take k, 0, k + 2, 0⟩ from rfl)
      rw [h, show p + 1 + k + 1 = p + (k + 2) by omega]; exact this
    clear hd hcc hQ hv hk
    generalize quoT t (some k) = rr at *
    generalize bs (t.take k) = y at *
    generalize hPP : p + 1 + k + 1 = P at *
    go_enter Tryd.func33, Tryd.ntmps33
    go_wp2_with (first | (go_at_call 68; refine (WD _).mono ?_; rintro e W' ⟨rfl, hw⟩; rw [hw]; clear hw) | (go_at_call 69; refine (LT _).mono ?_; rintro e W' ⟨rfl, hw⟩; rw [hw]; clear hw) | (go_at_call 70; refine (DG _).mono ?_; rintro e W' ⟨rfl, hw⟩; rw [hw]; clear hw) | (go_at_call 74; refine (QU.out _).mono ?_; rintro e W' ⟨rfl, hw⟩; rw [hw]; clear hw))
    refine ret3 rfl rfl (loadTk_row (rowAt_at _ _ _ _ _ rfl)) rfl rfl rfl ⟨_, rfl, HF.out P rfl, (Below.refl _ _).alloc (Nat.le_refl _) _⟩
set_option maxHeartbeats 2000000 in
set_option maxRecDepth 20000 in
theorem rtoken_sign (l : Bs) (hl : l.length ≤ 1000000000) (p : Nat) (c : UInt8) (t : Bs) (hd : l.drop p = c :: t) (hlt : lett c = false) (hdg : dig c = false) (hq : c ≠ 34) (w : World) : Calls Tryd.prog 33 #[.string (bs l), .int .i64 (p : Int)] w fun e w' => ∃ v, e = .returned v ∧ TokIs (signP (l.drop p)) p v ∧ Below w.heap.size w w' := by
  have hz := bs_size l
  have hp : p < l.length := by
    rcases Nat.lt_or_ge p l.length with h | h
    · exact h
    · rw [List.drop_of_length_le h] at hd; cases hd
  have WD := fun W => rword_any l (by omega) p (by omega) W
  have IX := index_str l p hp (p : Int) rfl
  have hcc : l[p] = c := by have := drop_cons hp; rw [hd] at this; exact (List.cons.inj this).1.symm
  rw [hcc] at IX
  have hc8 := c.toNat_lt
  have LT := fun W => rletter_any (c.toNat : Int) W
  have DG := fun W => rdigit_any (c.toNat : Int) W
  have h1 : ltrI (c.toNat : Int) = false := hlt
  rw [h1] at LT
  have h2 : digI (c.toNat : Int) = false := hdg
  rw [h2] at DG
  have n34 : ((c.toNat : Int) == 34) = false := u8_ne (k := 34) (by omega) hq
  have SG := fun W => rsign_any l hl p (by omega) W
  have hS : signP (l.drop p) = signT (signsL.find? fun s => s.isPrefixOf (l.drop p)) := rfl
  have hSo : signOf (l.drop p) = (signsL.find? fun s => s.isPrefixOf (l.drop p)).getD [] := rfl
  have hpl : ∀ s, signsL.find? (fun s => s.isPrefixOf (l.drop p)) = some s → s ≠ [] ∧ s.length ≤ 2 := fun s h => by
    have := signs_one s (List.mem_of_find?_eq_some h)
    exact ⟨fun e => by subst e; simp at this, this.2⟩
  rw [hS]
  generalize (wordL (l.drop p)).length = xn at *
  generalize signsL.find? (fun s => s.isPrefixOf (l.drop p)) = o at *
  cases o with
  | none =>
    rw [hSo] at SG
    have hem : (bs ([] : Bs)).toList.isEmpty = true := by rw [Lib.toList_data]; rfl
    have SG : Hid (∀ W, Calls Tryd.prog 75 #[.string (bs l), .int .i64 (p : Int)] W fun e w' => e = .returned (.string (bs [])) ∧ Below W.heap.size W w') := SG
    clear hd hcc hS hSo hpl
    go_enter Tryd.func33, Tryd.ntmps33
    go_wp2_with (first | (go_at_call 68; refine (WD _).mono ?_; rintro e W' ⟨rfl, hw⟩; rw [hw]; clear hw) | (go_at_call 69; refine (LT _).mono ?_; rintro e W' ⟨rfl, hw⟩; rw [hw]; clear hw) | (go_at_call 70; refine (DG _).mono ?_; rintro e W' ⟨rfl, hw⟩; rw [hw]; clear hw) | (go_at_call 75; refine (SG.out _).mono ?_; rintro e w1 ⟨rfl, hb⟩; obtain ⟨hbl, m0, hs0⟩ := aft1 hb; have m2 : roomAt (w1.alloc (.cells (Tk.mk 6 (bs []) 0 p).cells 38)) w.heap.size 4 = true := (roomAt_old _ _ _ _ hs0).trans m0))
    refine ret3 rfl rfl (loadTk_row (rowAt_old' _ _ _ (rowTk_put _ _ _ m0))) rfl rfl rfl ⟨_, rfl, tok_bad rfl (by omega), ?_⟩
    exact (below_put hbl _ (Nat.le_refl _) _).alloc (by rw [size_put]; omega) _
  | some s =>
    obtain ⟨hs1, hs2⟩ := hpl s rfl
    rw [hSo] at SG
    have hem : (bs s).toList.isEmpty = false := by rw [Lib.toList_data, bs_data]; cases s with
      | nil => exact absurd rfl hs1
      | cons a b => rfl
    have hsz := bs_size s
    have SG : Hid (∀ W, Calls Tryd.prog 75 #[.string (bs l), .int .i64 (p : Int)] W fun e w' => e = .returned (.string (bs s)) ∧ Below W.heap.size W w') := SG
    have HF : Hid (TokIs (signT (some s)) p (.tuple #[.agg (Tk.mk 6 (bs s) 0 p).cells, .int .i64 ((p : Int) + (s.length : Int)), .int .i64 0])) := by
      have := tok_good (p := p) (show signT (some s) = ⟨6, s, 0, s.length, 0⟩ from rfl)
      rw [show ((p : Int) + (s.length : Int)) = ((p + s.length : Nat) : Int) by omega]; exact this
    have kw : IntKind.i64.wrap ((p : Int) + (s.length : Int)) = (p : Int) + (s.length : Int) := by rw [IntKind.wrap_i64]; omega
    clear hd hcc hS hSo hpl
    generalize signT (some s) = rr at *
    generalize s.length = sn at *
    go_enter Tryd.func33, Tryd.ntmps33
    go_wp2_with (first | (go_at_call 68; refine (WD _).mono ?_; rintro e W' ⟨rfl, hw⟩; rw [hw]; clear hw) | (go_at_call 69; refine (LT _).mono ?_; rintro e W' ⟨rfl, hw⟩; rw [hw]; clear hw) | (go_at_call 70; refine (DG _).mono ?_; rintro e W' ⟨rfl, hw⟩; rw [hw]; clear hw) | (go_at_call 75; refine (SG.out _).mono ?_; rintro e w1 ⟨rfl, hb⟩; obtain ⟨hbl, m0, hs0⟩ := aft1 hb; have m2 : roomAt (w1.alloc (.cells (Tk.mk 6 (bs s) 0 p).cells 38)) w.heap.size 4 = true := (roomAt_old _ _ _ _ hs0).trans m0))
    go_region
    go_wp2
    refine ret3 rfl rfl (loadTk_row ((rowAt_drewN _ _ _).trans (rowAt_old' _ _ _ (rowTk_put _ _ _ m0)))) rfl rfl rfl ⟨_, rfl, HF.out, ?_⟩
    exact bdrewN ((below_put hbl _ (Nat.le_refl _) _).alloc (by rw [size_put]; omega) _) _
/-- The document's token, at a place where neither the end nor a remark stands. -/
theorem rtoken_any (l : Bs) (hl : l.length ≤ 1000000000) (p : Nat) (hp : p < l.length) (ho : opens (l.drop p) = false) (w : World) : Calls Tryd.prog 33 #[.string (bs l), .int .i64 (p : Int)] w fun e w' => ∃ v, e = .returned v ∧ TokIs (firstP (l.drop p)) p v ∧ Below w.heap.size w w' := by
  have hd := drop_cons hp
  have hf : firstP (l.drop p) = firstC l[p] (l.drop p) := by
    conv => lhs; rw [hd]
    rw [firstP, ← hd]
  rw [hf]
  unfold firstC
  rw [ho, if_neg (by simp)]
  cases h1 : lett l[p]
  · rw [if_neg (by simp)]
    cases h2 : dig l[p]
    · rw [if_neg (by simp)]
      by_cases h3 : l[p] = 34
      · rw [if_pos h3]; exact rtoken_quo l hl p _ _ hd h1 h2 h3 w
      · rw [if_neg h3]; exact rtoken_sign l hl p _ _ hd h1 h2 h3 w
    · rw [if_pos rfl]; exact rtoken_num l hl p _ _ hd h1 h2 w
  · rw [if_pos rfl]; exact rtoken_name l hl p _ _ hd h1 w
end Go.Proofs.YtejcjhoojpoamaaDoor

namespace Go.Proofs.YtejcjhoojpoamaaDoor
set_option linter.unusedVariables false
set_option linter.unusedSimpArgs false
open Go.ChangeShapes Go.WideShapes Go.ChangeAt Go.RowKit
attribute [local go_sem ↓] loadTk_seal storeTk_seal loadKeys_seal loadSigns_seal
attribute [local go_sem] loadTk_run storeTk_run rowAt_at rowAt_old rowAt_drew rowAt_drewN roomTk_new roomAt_old roomAt_drew roomAt_drewN putTk_new Tk.fold putRow_past rowTk_put size_put putRow_drew putRow_drewN alloc_drewN setCell_drewN Tk.at0 Tk.at1 Tk.at2 Tk.at3 Tk.size Tk.set0 Tk.set1 Tk.set2 Tk.set3 Tk.ne rowAt_set rowAt_far roomAt_far

/-- Two bytes stand at a place. -/
def two (l : Bs) (p : Nat) (a b : UInt8) : Bool := (l.drop p).take 2 == [a, b]
theorem slice_mid (l : Bs) (k : Nat) (h : k + 2 ≤ l.length) (w : World) : (Instr.slice 9 (.string (bs l)) (some (.int .i64 (k : Int))) (some (.int .i64 ((k : Int) + 2))) none).run Tryd.prog w = .ok (.string (bs ((l.drop k).take 2))) w := by
  rw [run_slice_string w 9 (bs l) .i64 .i64 (k : Int) ((k : Int) + 2) Tryd.underlying9 (by omega) (by omega) (by rw [bs_size]; omega)]
  have e : ((k : Int) + 2).toNat = k + 2 := by omega
  rw [e, Int.toNat_natCast, bs_mid, show k + 2 - k = 2 by omega]
theorem two_short {l : Bs} {p : Nat} {a b : UInt8} (h : ¬ p + 1 < l.length) : two l p a b = false := by
  unfold two
  rw [beq_eq_false_iff_ne]
  intro e
  have := congrArg List.length e
  rw [List.length_take, List.length_drop] at this
  simp at this
  omega
set_option maxRecDepth 20000 in
theorem stands_any (l : Bs) (hl : l.length ≤ 1000000000) (p : Nat) (hp : p ≤ l.length) (a b : UInt8) (B : Bool) (hB : two l p a b = B) (w : World) : Calls Tryd.prog 66 #[.string (bs l), .int .i64 (p : Int), .string { data := #[a, b] }] w fun e w' => e = .returned (.bool B) ∧ w' = w := by
  have hz := bs_size l
  by_cases h : p + 1 < l.length
  · have d0 : decide ((p : Int) + 1 < (l.length : Int)) = true := decide_eq_true (by omega)
    have SL := slice_mid l p (by omega)
    have hq : ((bs ((l.drop p).take 2)).toList == ({ data := #[a, b] } : ByteArray).toList) = B := by
      rw [← hB]; exact str_eq ((l.drop p).take 2) [a, b]
    have hq2 : ((bs ((l.drop p).take 2)).toList == [a, b]) = B := by
      rw [← hB, Lib.toList_data, bs_data]; rfl
    generalize bs ((l.drop p).take 2) = x at *
    clear hB
    have HQ : Hid ((x.toList == [a, b]) = B) := hq2
    have HQ' : Hid ((x.toList == ({ data := #[a, b] } : ByteArray).toList) = B) := hq
    clear hq hq2
    go_enter Tryd.func66, Tryd.ntmps66
    go_wp2
    go_ret
    exact ⟨ret_bool (by first | exact HQ.out | exact HQ'.out), rfl⟩
  · have d0 : decide ((p : Int) + 1 < (l.length : Int)) = false := decide_eq_false (by omega)
    rw [two_short h] at hB
    subst hB
    go_enter Tryd.func66, Tryd.ntmps66
    go_wp2
    go_ret
    exact ⟨rfl, rfl⟩
/-- What is found from a place on, within d remarks. -/
def remQ (d : Nat) (l : Bs) (p : Nat) : Option Nat := upTo p (remP d (l.drop p))
theorem remQ_end {d : Nat} {l : Bs} {p : Nat} (h : ¬ p < l.length) : remQ d l p = none := by unfold remQ; rw [List.drop_of_length_le (by omega)]; rfl
theorem two_is {l : Bs} {p : Nat} {a b : UInt8} (h : two l p a b = true) : l.drop p = a :: b :: l.drop (p + 2) ∧ p + 2 ≤ l.length := by
  unfold two at h
  have e : (l.drop p).take 2 = [a, b] := by simpa using h
  have hl : p + 2 ≤ l.length := by
    have := congrArg List.length e
    rw [List.length_take, List.length_drop] at this
    simp at this; omega
  refine ⟨?_, hl⟩
  rw [← List.take_append_drop 2 (l.drop p), e, List.drop_drop]; rfl
theorem remQ_open {d : Nat} {l : Bs} {p : Nat} (h : two l p 40 42 = true) : remQ d l p = remQ (d + 1) l (p + 2) := by
  unfold remQ
  rw [(two_is h).1, remP, if_pos ⟨rfl, rfl⟩, upTo_map]
theorem remQ_last {d : Nat} {l : Bs} {p : Nat} (h : two l p 42 41 = true) (hd : d ≤ 1) : remQ d l p = some (p + 2) := by
  unfold remQ
  rw [(two_is h).1, remP, if_neg (by simp), if_pos ⟨rfl, rfl⟩, if_pos hd]; simp [upTo]; omega
theorem remQ_close {d : Nat} {l : Bs} {p : Nat} (h : two l p 42 41 = true) (hd : 2 ≤ d) : remQ d l p = remQ (d - 1) l (p + 2) := by
  unfold remQ
  rw [(two_is h).1, remP, if_neg (by simp), if_pos ⟨rfl, rfl⟩, if_neg (by omega), upTo_map]
theorem two_not {l : Bs} {p : Nat} {a b x y : UInt8} {r : Bs} (h : two l p a b = false) (hd : l.drop p = x :: y :: r) : ¬ (x = a ∧ y = b) := by
  intro e
  unfold two at h
  rw [hd, e.1, e.2] at h
  simp at h
theorem remQ_plain {d : Nat} {l : Bs} {p : Nat} (hp : p < l.length) (h1 : two l p 40 42 = false) (h2 : two l p 42 41 = false) : remQ d l p = remQ d l (p + 1) := by
  unfold remQ
  rw [drop_cons hp]
  by_cases hq : p + 1 < l.length
  · have hd := drop_cons hp
    rw [drop_cons hq] at hd ⊢
    rw [remP, if_neg (two_not h1 hd), if_neg (two_not h2 hd), upTo_map]
  · rw [List.drop_of_length_le (show l.length ≤ p + 1 by omega)]; rfl
def backI (o : Option Nat) : Int := match o with
  | some n => (n : Int)
  | none => -1
set_option maxRecDepth 20000 in
theorem rremark_any (l : Bs) (hl : l.length ≤ 1000000000) (p0 : Nat) (hp0 : two l p0 40 42 = true) (w : World) : Calls Tryd.prog 67 #[.string (bs l), .int .i64 (p0 : Int)] w fun e w' => e = .returned (.int .i64 (backI (remQ 0 l p0))) ∧ w' = w := by
  have hz := bs_size l
  obtain ⟨r, hr⟩ : ∃ r, remQ 0 l p0 = r := ⟨_, rfl⟩
  rw [hr]
  have HP : Hid (two l p0 40 42 = true) := hp0
  have hp1 := (two_is hp0).2
  have HR : Hid (remQ 0 l p0 = r) := hr
  clear hp0 hr
  go_enter Tryd.func67, Tryd.ntmps67
  go_wp2
  go_loopg [1, 4, 5] (l.length - p0) (fun gf s1 s4 s5 wx => ∃ p d : Nat, s1 = .int .i64 (p : Int) ∧ s4 = .int .i64 0 ∧ s5 = .int .i64 (d : Int) ∧ p0 ≤ p ∧ p ≤ l.length ∧ l.length ≤ p + gf ∧ d ≤ p ∧ wx = w ∧ Hid (remQ d l p = r ∧ (d = 0 → p = p0)))
  case atStart => exact ⟨p0, 0, rfl, rfl, rfl, by omega, by omega, by omega, by omega, rfl, HR.out, fun _ => rfl⟩
  case round =>
    obtain ⟨p, d, rfl, rfl, rfl, hp1, hp2, hp3, hdp, hww, HQ⟩ := hrel
    obtain rfl := hww.symm
    by_cases hlt : p < l.length
    · obtain ⟨g', rfl⟩ : ∃ g', gk = g' + 1 := ⟨gk - 1, by omega⟩
      have d0 : decide ((p : Int) < (l.length : Int)) = true := decide_eq_true (by omega)
      have ST : Hid (∀ a b W, Calls Tryd.prog 66 #[.string (bs l), .int .i64 (p : Int), .string { data := #[a, b] }] W fun e w' => e = .returned (.bool (two l p a b)) ∧ w' = W) := fun a b W => stands_any l hl p (by omega) a b _ rfl W
      cases h1 : two l p 40 42
      · cases h2 : two l p 42 41
        · have HN : Hid (remQ d l (p + 1) = r ∧ (d = 0 → p + 1 = p0)) := by
            refine ⟨by rw [← remQ_plain hlt h1 h2]; exact HQ.out.1, fun h => ?_⟩
            have := HQ.out.2 h
            subst this
            rw [HP.out] at h1; cases h1
          clear HQ
          go_wp2_with (go_at_call 66; refine (ST.out _ _ _).mono ?_; rintro e W' ⟨rfl, hw⟩; rw [hw]; clear hw)
          go_roundg g'
          case measure => omega
          case rel => exact ⟨p + 1, d, by simp, rfl, rfl, by omega, by omega, by omega, by omega, rfl, HN⟩
        · have ht := two_is h2
          have hd1 : 1 ≤ d := by
            rcases Nat.eq_zero_or_pos d with h | h
            · have := HQ.out.2 h
              subst this
              rw [HP.out] at h1; cases h1
            · exact h
          by_cases hd : d = 1
          · subst hd
            have HF : Hid (r = some (p + 2)) := by rw [← HQ.out.1]; exact remQ_last h2 (by omega)
            clear HQ
            go_wp2_with (go_at_call 66; refine (ST.out _ _ _).mono ?_; rintro e W' ⟨rfl, hw⟩; rw [hw]; clear hw)
            go_ret
            exact ⟨ret_int (by rw [HF.out]; simp [backI]), rfl⟩
          · obtain ⟨d', rfl⟩ : ∃ d', d = d' + 2 := ⟨d - 2, by omega⟩
            have HN : Hid (remQ (d' + 1) l (p + 2) = r ∧ (d' + 1 = 0 → p + 2 = p0)) := ⟨by rw [← HQ.out.1]; exact (remQ_close (d := d' + 2) h2 (by omega)).symm, fun h => by omega⟩
            have g1 : (((d' + 2 : Nat) : Int) - 1 == 0) = false := by rw [beq_eq_false_iff_ne]; omega
            clear HQ
            go_wp2_with (go_at_call 66; refine (ST.out _ _ _).mono ?_; rintro e W' ⟨rfl, hw⟩; rw [hw]; clear hw)
            go_roundg g'
            case measure => omega
            case rel => exact ⟨p + 2, d' + 1, by simp, rfl, by simp; omega, by omega, by omega, by omega, by omega, rfl, HN⟩
      · have ht := two_is h1
        have HN : Hid (remQ (d + 1) l (p + 2) = r ∧ (d + 1 = 0 → p + 2 = p0)) := ⟨by rw [← HQ.out.1]; exact (remQ_open h1).symm, fun h => by omega⟩
        clear HQ
        go_wp2_with (go_at_call 66; refine (ST.out _ _ _).mono ?_; rintro e W' ⟨rfl, hw⟩; rw [hw]; clear hw)
        go_roundg g'
        case measure => omega
        case rel => exact ⟨p + 2, d + 1, by simp, rfl, by simp, by omega, by omega, by omega, by omega, rfl, HN⟩
    · have d0 : decide ((p : Int) < (l.length : Int)) = false := decide_eq_false (by omega)
      have HF : Hid (r = none) := by rw [← HQ.out.1]; exact remQ_end hlt
      clear HQ
      go_wp2
      go_ret
      exact ⟨ret_int (by rw [HF.out]; rfl), rfl⟩
theorem two_opens (l : Bs) (p : Nat) : two l p 40 42 = opens (l.drop p) := by
  unfold two
  match l.drop p with
  | [] => rfl
  | [a] => simp [opens]
  | a :: b :: r => simp [opens]
theorem blk_or (c : UInt8) : ((c.toNat : Int) == 32 || (c.toNat : Int) == 9 || (c.toNat : Int) == 10 || (c.toNat : Int) == 13) = blk c := rfl
set_option maxHeartbeats 1000000 in
set_option maxRecDepth 20000 in
theorem rblanks_any (l : Bs) (hl : l.length ≤ 1000000000) (p0 : Nat) (hp0 : p0 ≤ l.length) (w : World) : Calls Tryd.prog 32 #[.string (bs l), .int .i64 (p0 : Int)] w fun e w' => e = .returned (.tuple #[.int .i64 ((p0 + skip (l.drop p0) : Nat) : Int), .bool (!opens (l.drop (p0 + skip (l.drop p0))))]) ∧ w' = w := by
  have hz := bs_size l
  obtain ⟨t, ht⟩ : ∃ t, p0 + skip (l.drop p0) = t := ⟨_, rfl⟩
  rw [ht]
  go_enter Tryd.func32, Tryd.ntmps32
  go_wp2
  go_loopg [1, 4, 5] (l.length - p0) (fun gf s1 s4 s5 wx => ∃ p : Nat, s1 = .int .i64 (p : Int) ∧ s4 = .int .i64 0 ∧ s5 = .bool false ∧ p ≤ l.length ∧ l.length ≤ p + gf ∧ wx = w ∧ Hid (p + skip (l.drop p) = t))
  case atStart => exact ⟨p0, rfl, rfl, rfl, by omega, by omega, rfl, ht⟩
  case round =>
    obtain ⟨p, rfl, rfl, rfl, hp1, hp2, hww, HT⟩ := hrel
    obtain rfl := hww.symm
    clear ht
    by_cases hlt : p < l.length
    · obtain ⟨g', rfl⟩ : ∃ g', gk = g' + 1 := ⟨gk - 1, by omega⟩
      have d0 : decide ((p : Int) < (l.length : Int)) = true := decide_eq_true (by omega)
      have IX := index_str l p hlt (p : Int) rfl
      have hd := drop_cons hlt
      obtain ⟨c, hc⟩ : ∃ c, l[p]'hlt = c := ⟨_, rfl⟩
      rw [hc] at IX hd
      have ST : Hid (∀ a b W, Calls Tryd.prog 66 #[.string (bs l), .int .i64 (p : Int), .string { data := #[a, b] }] W fun e w' => e = .returned (.bool (two l p a b)) ∧ w' = W) := fun a b W => stands_any l hl p (by omega) a b _ rfl W
      cases hb : blk c
      · have nb : ((c.toNat : Int) == 32) = false ∧ ((c.toNat : Int) == 9) = false ∧ ((c.toNat : Int) == 10) = false ∧ ((c.toNat : Int) == 13) = false := by
          rw [← blk_or] at hb
          simp only [Bool.or_eq_false_iff] at hb
          exact ⟨hb.1.1.1, hb.1.1.2, hb.1.2, hb.2⟩
        obtain ⟨n1, n2, n3, n4⟩ := nb
        cases ho : two l p 40 42
        · have hs : skip (l.drop p) = 0 := by
            have ho2 : opens (c :: l.drop (p + 1)) = false := by rw [← hd, ← two_opens]; exact ho
            rw [hd]
            exact skip_stop hb (by unfold remN; rw [ho2]; rfl)
          have HF : Hid (t = p ∧ opens (l.drop t) = false) := by
            have := HT.out
            rw [hs, Nat.add_zero] at this
            subst this
            exact ⟨rfl, by rw [← two_opens]; exact ho⟩
          clear HT hs hd hc hb
          go_wp2_with (go_at_call 66; refine (ST.out _ _ _).mono ?_; rintro e W' ⟨rfl, hw⟩; rw [hw]; clear hw)
          go_ret2
          exact ⟨by rw [HF.out.2, HF.out.1]; rfl, rfl⟩
        · have RM : Hid (∀ W, Calls Tryd.prog 67 #[.string (bs l), .int .i64 (p : Int)] W fun e w' => e = .returned (.int .i64 (backI (remQ 0 l p))) ∧ w' = W) := fun W => rremark_any l hl p ho W
          have hop : opens (l.drop p) = true := by rw [← two_opens]; exact ho
          cases hr : remP 0 (l.drop p) with
          | none =>
            have hq : backI (remQ 0 l p) = -1 := by unfold remQ; rw [hr]; rfl
            rw [hq] at RM
            have hs : skip (l.drop p) = 0 := by
              have hn : remN (l.drop p) = 0 := by unfold remN; rw [hr]; split <;> rfl
              rw [hd] at hn ⊢
              exact skip_stop hb hn
            have HF : Hid (t = p ∧ opens (l.drop t) = true) := by
              have := HT.out
              rw [hs, Nat.add_zero] at this
              subst this
              exact ⟨rfl, hop⟩
            clear HT hs hd hc hb hop
            go_wp2_with (first | (go_at_call 66; refine (ST.out _ _ _).mono ?_; rintro e W' ⟨rfl, hw⟩; rw [hw]; clear hw) | (go_at_call 67; refine (RM.out _).mono ?_; rintro e W' ⟨rfl, hw⟩; rw [hw]; clear hw))
            go_ret2
            exact ⟨by rw [HF.out.2, HF.out.1]; rfl, rfl⟩
          | some n =>
            have hq : backI (remQ 0 l p) = ((p + n : Nat) : Int) := by unfold remQ; rw [hr]; simp [upTo, backI]; omega
            rw [hq] at RM
            have hln := remP_le _ _ _ hr
            rw [List.length_drop] at hln
            have hn : remN (l.drop p) = n := by unfold remN; rw [hr, hop]; rfl
            have HN : Hid (p + n + skip (l.drop (p + n)) = t) := by
              have := HT.out
              rw [skip_rem (by rw [hn]; omega), hn, List.drop_drop] at this
              show _ = _
              omega
            have g1 : decide (((p + n : Nat) : Int) < 0) = false := decide_eq_false (by omega)
            clear HT hd hc hb hop hr hn
            go_wp2_with (first | (go_at_call 66; refine (ST.out _ _ _).mono ?_; rintro e W' ⟨rfl, hw⟩; rw [hw]; clear hw) | (go_at_call 67; refine (RM.out _).mono ?_; rintro e W' ⟨rfl, hw⟩; rw [hw]; clear hw))
            go_roundg g'
            case measure => omega
            case rel => exact ⟨p + n, by simp, rfl, rfl, by omega, by omega, rfl, HN⟩
      · have HN : Hid (p + 1 + skip (l.drop (p + 1)) = t) := by
          have := HT.out
          rw [hd, skip_blk hb] at this
          show _ = _
          omega
        have hb' := hb
        rw [← blk_or] at hb'
        generalize two l p 40 42 = o2 at *
        clear HT hd hc hb
        cases e1 : ((c.toNat : Int) == 32) <;> cases e2 : ((c.toNat : Int) == 9) <;> cases e3 : ((c.toNat : Int) == 10) <;> cases e4 : ((c.toNat : Int) == 13)
        all_goals first
          | (rw [e1, e2, e3, e4] at hb'; cases hb'; done)
          | (clear hb'
             go_wp2_with (go_at_call 66; refine (ST.out _ _ _).mono ?_; rintro e W' ⟨rfl, hw⟩; rw [hw]; clear hw)
             go_roundg g'
             case measure => omega
             case rel => exact ⟨p + 1, by simp, rfl, rfl, by omega, by omega, rfl, HN⟩)
    · have d0 : decide ((p : Int) < (l.length : Int)) = false := decide_eq_false (by omega)
      have HF : Hid (t = p ∧ opens (l.drop t) = false) := by
        have := HT.out
        rw [List.drop_of_length_le (by omega), skip_nil, Nat.add_zero] at this
        subst this
        exact ⟨rfl, by rw [List.drop_of_length_le (by omega)]; rfl⟩
      clear HT
      go_wp2
      go_ret2
      exact ⟨by rw [HF.out.2, HF.out.1]; rfl, rfl⟩
end Go.Proofs.YtejcjhoojpoamaaDoor

namespace Go.Proofs.YtejcjhoojpoamaaDoor
set_option linter.unusedVariables false
set_option linter.unusedSimpArgs false
open Go.ChangeShapes Go.WideShapes Go.ChangeAt Go.RowKit
attribute [local go_sem ↓] loadTk_seal storeTk_seal loadKeys_seal loadSigns_seal
attribute [local go_sem] loadTk_run storeTk_run rowAt_at rowAt_old rowAt_drew rowAt_drewN roomTk_new roomAt_old roomAt_drew roomAt_drewN putTk_new Tk.fold putRow_past rowTk_put size_put putRow_drew putRow_drewN alloc_drewN setCell_drewN Tk.at0 Tk.at1 Tk.at2 Tk.at3 Tk.size Tk.set0 Tk.set1 Tk.set2 Tk.set3 Tk.ne rowAt_set rowAt_far roomAt_far

def appU (t : Array TypeId) (r : TypeId) (xs : Array Value) : Sem Value := Builtin.append_ t r xs
theorem appU_seal (t : Array TypeId) (r : TypeId) (xs : Array Value) : Builtin.append_ t r xs = appU t r xs := rfl
theorem first_opens {l : Bs} (h : opens l = true) : (firstP l).e = 85 := by
  obtain ⟨r, rfl⟩ := opens_two h
  show (firstC 40 _).e = 85
  unfold firstC
  rw [h]; rfl
theorem own_lt8 {w : World} {B e size n : Nat} {v : Value} {xs : List Value} (h : w.ownsRow B e size v n xs) : ∀ j, v.ownBlock = some j → B ≤ j ∧ j < w.heap.size := own_lt h
theorem app_aft1 {w w2 w3 : World} {v : Value} {n : Nat} {xs : List Value} {c : Tk} {t : TypeId} (hown : w2.ownsRow w.heap.size t 4 v n xs) (hbl : Below w.heap.size w w2) (hg : (w2.alloc (.cells c.cells t)).grownBy w3 v.ownBlock) : Below w.heap.size w w3 := by
  have := hbl.size
  exact (hbl.alloc (by omega) _).grown hg (by simp; omega) (fun j hj => (own_lt hown _ hj).1)
theorem bld_fold (c z : Tk) : Array.foldl (fun cs x => cs.setIfInBounds x.snd x.fst) #[z.cells[0]!, z.cells[1]!, z.cells[2]!, z.cells[3]!] c.cells.zipIdx 0 4 = c.cells := rfl
attribute [local go_sem ↓] appU_seal
attribute [local go_sem] bld_fold
set_option maxHeartbeats 2000000 in
set_option maxRecDepth 20000 in
theorem rall_any (l : Bs) (w : World) : Calls Tryd.prog 18 #[.string (bs l)] w fun e w' => ∃ v, e = .returned (.tuple #[v, .int .i64 ((allP l).p : Int), .int .i64 (allP l).e]) ∧ w'.ownsRow w.heap.size 38 4 v (allP l).ts.length (tokC (allP l).ts) ∧ Below w.heap.size w w' := by
  have hz := bs_size l
  by_cases hl : 16384 < l.length
  · have e : allP l = ⟨[], 0, 80⟩ := by unfold allP; rw [if_pos hl]
    rw [e]
    have g1 : decide ((16384 : Int) < (l.length : Int)) = true := by simp; omega
    go_enter Tryd.func18, Tryd.ntmps18
    go_wp2
    go_ret3
    exact ⟨_, rfl, ⟨rfl, .inl ⟨rfl, rfl⟩⟩, Below.refl _ _⟩
  · have hl : l.length ≤ 16384 := by omega
    have hA := allP_goX l hl
    generalize allP l = A at *
    obtain ⟨i0, hi0, hz0, hz1, hz2⟩ := info_parts info29
    go_enter Tryd.func18, Tryd.ntmps18
    go_wp2
    go_loopg [2, 3, 4, 5, 6] (l.length + 1) (fun gf s2 s3 s4 s5 s6 wx => ∃ (p : Nat) (d : List Tok), s2 = .slice none 0 0 ∧ s3 = .int .i64 0 ∧ s4 = .int .i64 0 ∧ s6 = .int .i64 (p : Int) ∧ p ≤ l.length ∧ l.length + 1 ≤ p + gf ∧ d.length ≤ p ∧ wx.ownsRow w.heap.size 38 4 s5 d.length (tokC d) ∧ Below w.heap.size w wx ∧ Hid (A = (goX p (l.drop p)).pre d))
    case atStart => exact ⟨0, [], rfl, rfl, rfl, rfl, by omega, by omega, by simp, ⟨rfl, .inl ⟨rfl, rfl⟩⟩, Below.refl _ _, by rw [pre_nil]; exact hA⟩
    case round =>
      obtain ⟨p, d, rfl, rfl, rfl, rfl, hp, hp2, hdp, hown, hbw, HA⟩ := hrel
      clear hA
      have hA := HA.out
      have hsk := skip_le (l.drop p)
      rw [List.length_drop] at hsk
      have BL := fun W => rblanks_any l (by omega) p hp W
      have hdd : (l.drop p).drop (skip (l.drop p)) = l.drop (p + skip (l.drop p)) := by rw [List.drop_drop]
      obtain ⟨r, hr⟩ : ∃ r, firstP ((l.drop p).drop (skip (l.drop p))) = r := ⟨_, rfl⟩
      have hr2 : firstP (l.drop (p + skip (l.drop p))) = r := by rw [← hdd]; exact hr
      have hk0 : r.e = 0 → p + skip (l.drop p) ≠ l.length → r.k ≠ 0 := fun a hne hk => by
        have := (first_end (l := l.drop (p + skip (l.drop p))) (by rw [hr2]; exact a)).1 (by rw [hr2]; exact hk)
        have := congrArg List.length this
        rw [List.length_drop] at this
        simp at this; omega
      have g1 := goX_bad p (l.drop p) r.e (by rw [hr])
      have g2 := goX_end p (l.drop p)
      have g3 := goX_step p (l.drop p) r hr
      rw [hr] at g2
      rw [List.length_drop, List.drop_drop] at g3
      obtain ⟨b, hb⟩ : ∃ b, skip (l.drop p) = b := ⟨_, rfl⟩
      rw [hb] at g1 g2 g3 BL hsk hr2 hk0
      clear hb hdd hr HA
      have hbs := hbw.size
      cases ho : opens (l.drop (p + b))
      · rw [ho] at BL
        have BL : Hid (∀ W, Calls Tryd.prog 32 #[.string (bs l), .int .i64 (p : Int)] W fun e w' => e = .returned (.tuple #[.int .i64 ((p + b : Nat) : Int), .bool true]) ∧ w' = W) := BL
        by_cases hend : p + b = l.length
        · have hnil : l.drop (p + b) = [] := List.drop_of_length_le (by omega)
          rw [hnil] at hr2
          subst hr2
          rw [g2 rfl rfl] at hA
          have HA : Hid (A = ⟨d ++ [⟨0, [], 0, p + b⟩], 0, 0⟩) := hA
          have k1 : (((p + b : Nat) : Int) == (l.length : Int)) = true := by rw [hend]; simp
          clear hA g1 g2 g3 hnil ho
          generalize p + b = P at *
          subst hend
          obtain ⟨v3, w3, hrun, hown3, hgrow3, _⟩ := run_append_own (P := Tryd.prog) (w := wr.alloc (.cells (Tk.mk 0 ⟨#[]⟩ 0 (l.length : Int)).cells 38)) w.heap.size 32 32 38 i0 (.agg #[.int .i64 0, .string ⟨#[]⟩, .int .i64 0, .int .i64 0]) 4 40 Tryd.underlying32 hi0 hz0 hz1 hz2 rfl (by decide) _ d.length _ (hown.alloc _) ⟨wr.heap.size, 0, none⟩ 1 1 (Tk.mk 0 ⟨#[]⟩ 0 (l.length : Int)).cells.toList rfl (new_tok _ _ _ _ rfl) (Tk.one _) (by unfold maxLen; omega) (by omega) (by simp; omega)
          have hbl3 := app_aft1 hown hbw hgrow3
          rw [appU_seal] at hrun
          go_wp2_with (go_at_call 32; refine (BL.out _).mono ?_; rintro e W' ⟨rfl, hw⟩; rw [hw]; clear hw)
          go_ret3
          refine ⟨v3, by rw [HA.out]; rfl, ?_, hbl3⟩
          rw [HA.out, List.length_append, tokC_app, tokC_one]
          exact hown3
        · have k1 : (((p + b : Nat) : Int) == (l.length : Int)) = false := by rw [beq_eq_false_iff_ne]; omega
          have TK : Hid (∀ W, Calls Tryd.prog 33 #[.string (bs l), .int .i64 ((p + b : Nat) : Int)] W fun e w' => ∃ v, e = .returned v ∧ TokIs r (p + b) v ∧ Below W.heap.size W w') := fun W => by have := rtoken_any l (by omega) (p + b) (by omega) ho W; rw [hr2] at this; exact this
          clear hr2
          by_cases he : r.e = 0
          · have hk : r.k ≠ 0 := hk0 he hend
            obtain ⟨q1, q2, q3⟩ := g3 he hk
            rw [q1, pre_pre] at hA
            have HA : Hid (A = (goX (p + b + r.len) (l.drop (p + (b + r.len)))).pre (d ++ [⟨r.k, r.t, r.n, p + b⟩])) := hA
            have TB : Hid (∀ W, Calls Tryd.prog 33 #[.string (bs l), .int .i64 ((p + b : Nat) : Int)] W fun e w' => e = .returned (.tuple #[.agg (Tk.mk r.k (bs r.t) r.n ((p + b : Nat) : Int)).cells, .int .i64 ((p + b + r.len : Nat) : Int), .int .i64 0]) ∧ Below W.heap.size W w') := fun W => (TK.out W).mono fun e w' ⟨v, h1, h2, h3⟩ => ⟨by rw [h1, h2, if_pos he], h3⟩
            obtain ⟨g', rfl⟩ : ∃ g', gk = g' + 1 := ⟨gk - 1, by omega⟩
            have hP3 : p + b + r.len ≤ l.length := by omega
            have hPp : p ≤ p + b := by omega
            have hP1 : p + b + 1 ≤ p + b + r.len := by omega
            rw [show p + (b + r.len) = p + b + r.len by omega] at HA
            clear hA g1 g2 g3 TK ho q1 q2 q3 hsk
            generalize p + b + r.len = P3 at *
            generalize p + b = P at *
            go_wp2_with (first | (go_at_call 32; refine (BL.out _).mono ?_; rintro e W' ⟨rfl, hw⟩; rw [hw]; clear hw) | (go_at_call 33; refine (TB.out _).mono ?_; rintro e w2 ⟨rfl, hb2⟩) | (at_builtin; refine wpList_append_own _ rfl _ _ 32 rfl w.heap.size 38 i0 (.agg #[.int .i64 0, .string ⟨#[]⟩, .int .i64 0, .int .i64 0]) 4 40 Tryd.underlying32 hi0 hz0 hz1 hz2 rfl (by decide) _ d.length _ rfl (((own_call hown hb2).alloc _).alloc _) ⟨w2.heap.size + 1, 0, none⟩ 1 1 (Tk.mk r.k (bs r.t) r.n (P : Int)).cells.toList rfl rfl (new_tok _ _ _ _ (by simp)) (Tk.one _) (by unfold maxLen; omega) (by omega) (by simp; have := hb2.size; omega) ?_; intro v3 w3 hown3 hgrow3 hnil3; obtain ⟨hcl, hbl3⟩ := app_aft (own_call hown hb2) (Below.call hbw hb2 (Nat.le_refl _)) hgrow3))
            go_roundg g'
            case measure => omega
            case rel =>
              refine ⟨P3, d ++ [⟨r.k, r.t, r.n, P⟩], rfl, rfl, rfl, rfl, by omega, by omega, by simp; omega, ?_, hbl3, HA⟩
              rw [List.length_append, tokC_app, tokC_one]
              exact hown3
          · rw [g1 he] at hA
            have HA : Hid (A = ⟨[], p + b, r.e⟩) := hA.trans (by unfold Al.pre; rw [if_neg he])
            have ne : (r.e != 0) = true := by simpa using he
            have TB : Hid (∀ W, Calls Tryd.prog 33 #[.string (bs l), .int .i64 ((p + b : Nat) : Int)] W fun e w' => e = .returned (.tuple #[.agg (Tk.mk 0 ⟨#[]⟩ 0 0).cells, .int .i64 0, .int .i64 r.e]) ∧ Below W.heap.size W w') := fun W => (TK.out W).mono fun e w' ⟨v, h1, h2, h3⟩ => ⟨by rw [h1, h2, if_neg he], h3⟩
            clear hA g1 g2 g3 TK ho
            generalize p + b = P at *
            go_wp2_with (first | (go_at_call 32; refine (BL.out _).mono ?_; rintro e W' ⟨rfl, hw⟩; rw [hw]; clear hw) | (go_at_call 33; refine (TB.out _).mono ?_; rintro e w2 ⟨rfl, hb2⟩))
            go_ret3
            refine ⟨.slice none 0 0, by rw [HA.out]; rfl, ?_, ?_⟩
            · rw [HA.out]; exact ⟨rfl, .inl ⟨rfl, rfl⟩⟩
            · exact (Below.call hbw hb2 (Nat.le_refl _)).alloc (by have := hb2.size; omega) _
      · rw [ho] at BL
        have h85 : r.e = 85 := by rw [← hr2]; exact first_opens ho
        have BL : Hid (∀ W, Calls Tryd.prog 32 #[.string (bs l), .int .i64 (p : Int)] W fun e w' => e = .returned (.tuple #[.int .i64 ((p + b : Nat) : Int), .bool false]) ∧ w' = W) := BL
        rw [g1 (by omega)] at hA
        have HA : Hid (A = ⟨[], p + b, 85⟩) := hA.trans (by unfold Al.pre; rw [h85]; rfl)
        clear hA g1 g2 g3
        generalize p + b = P at *
        go_wp2_with (go_at_call 32; refine (BL.out _).mono ?_; rintro e W' ⟨rfl, hw⟩; rw [hw]; clear hw)
        go_ret3
        refine ⟨.slice none 0 0, by rw [HA.out]; rfl, ?_, hbw⟩
        rw [HA.out]; exact ⟨rfl, .inl ⟨rfl, rfl⟩⟩
end Go.Proofs.YtejcjhoojpoamaaDoor
