/-
  The walk of the law AsmOne: it returns true.
-/
import Derived.Test.YtkidfnhgknkpiaaGreatDoorBk3
import Derived.Test.YtkidfnhgknkpiaaGreatDoorShn6
namespace Go.Proofs.YtkidfnhgknkpiaaGreatDoor
set_option linter.unusedVariables false
set_option linter.unusedSimpArgs false
open Go.ChangeShapes Go.WideShapes Go.ChangeAt Go.RowKit
attribute [local go_sem ↓] loadIn_seal storeIn_seal
attribute [local go_sem] loadIn_run storeIn_run rowAt_at rowAt_old rowAt_drew rowAt_drewN roomCpu_new roomIn_new roomAt_old roomAt_drew roomAt_drewN putCpu_new putIn_new Cp.zero_fold In.fold putRow_past rowCpu_put rowIn_put size_put putRow_drew putRow_drewN alloc_drewN setCell_drewN Cp.at16 Cp.at17 Cp.at18 Cp.at19 Cp.at20 Cp.at21 Cp.size Cp.set16 Cp.set17 Cp.set18 Cp.set19 Cp.set20 Cp.set21 In.at0 In.at1 In.at2 In.at3 In.at4 In.at5 In.at6 In.at7 In.size In.set0 In.set1 In.set2 In.set3 In.ne Cp.ne In.set4 In.set5 In.set6 In.set7

theorem pack_bd (i : In) (h : Rt i) : 0 ≤ packV i ∧ packV i ≤ 4294967295 := by
  obtain ⟨hA, hB, hC, hF⟩ := h
  have hu := bit_bd i.U
  have hv := bit_bd i.V
  unfold packV hiV
  rcases hF with ⟨hF, hN, o0, o1⟩ | ⟨hF, hC, n0, n1, o0, o1⟩ | ⟨hF, hC, hO, n0, n1⟩ | ⟨hF, hB, hO, hn⟩ <;> simp only [hF] <;> simp <;> omega
set_option maxHeartbeats 2000000 in
theorem word_bd {s : Bs} {a x : Int} (h : wordP s a = some x) : 0 ≤ x ∧ x ≤ 4294967295 := by
  unfold wordP at h
  simp only [] at h
  split at h
  · unfold digitsP at h
    split at h
    · split at h
      · rename_i hu
        injection h with h
        subst h
        have hu2 := hu
        simp only [unOK, decide_eq_true_eq] at hu2
        rename_i t _
        have hb := tgv_bd4 (unF (bs t)) (bs t).size (fun i _ => dv_bd _) (bs t).size (Nat.le_refl _)
        rw [unV, if_pos hu]
        have hp : (16 : Int) ^ (bs t).size ≤ 16 ^ 8 := by exact_mod_cast Nat.pow_le_pow_right (by omega) hu2.2.1
        omega
      · cases h
    · cases h
  · rw [Option.bind_eq_some_iff] at h
    obtain ⟨i, _, h⟩ := h
    rw [Option.bind_eq_some_iff] at h
    obtain ⟨i', _, h⟩ := h
    split at h
    · rename_i hr
      injection h with h
      subst h
      exact pack_bd i' (right_bd hr)
    · cases h
theorem go_bd : ∀ (l : List Bs) (n : Nat) (ws r : List Int), (∀ x ∈ ws, 0 ≤ x ∧ x ≤ 4294967295) → goP l n ws = .words r → ∀ x ∈ r, 0 ≤ x ∧ x ≤ 4294967295
  | [], n, ws, r, h, e => by
    simp only [goP] at e
    injection e with e
    subst e; exact h
  | l :: t, n, ws, r, h, e => by
    rw [goP] at e
    split at e
    · exact go_bd t _ ws r h e
    · split at e
      · cases e
      · rename_i x hx
        refine go_bd t _ _ r (fun y hy => ?_) e
        rcases List.mem_append.1 hy with h1 | h1
        · exact h y h1
        · simp at h1; subst h1; exact word_bd hx
theorem parse_bd (t : Bs) : ∀ x ∈ parseW t, 0 ≤ x ∧ x ≤ 4294967295 := by
  unfold parseW
  split
  · simp
  · split
    · rename_i l hl
      exact go_bd _ _ [] l (by simp) hl
    · simp
theorem parse_none (t : Bs) (h : parseE t ≠ 0) : parseW t = [] ∧ 0 ≤ parseN t := by
  unfold parseE at h
  unfold parseW parseN
  split
  · exact ⟨rfl, by omega⟩
  · rename_i hh
    rw [if_neg hh] at h
    cases hg : goP (parts 10 t) 0 [] with
    | words l => rw [hg] at h; exact absurd rfl h
    | line n => exact ⟨rfl, by simp⟩
theorem parse_zero (t : Bs) (h : parseE t = 0) : parseN t = 0 := by
  unfold parseE at h
  unfold parseN
  split
  · rfl
  · rename_i hh
    rw [if_neg hh] at h
    cases hg : goP (parts 10 t) 0 [] with
    | words l => rfl
    | line n => rw [hg] at h; cases h
theorem parse_empty : textOk (parseW []) = true := by
  have : parseW [] = [] := by simp [parseW, parts, goP, saidP, cutB, trimP_eq]
  rw [this]
  simp [textOk, linesP]
theorem words_own {w : World} {B : Nat} {v : Value} {L : List Int} (h : w.ownsRow B 23 1 v L.length (ints L)) : ∃ a c, v = .slice a L.length c ∧ WordsAt w a L := by
  rcases h.2 with ⟨rfl, h0⟩ | ⟨g, cap, cur, rfl, hb, hg, hc, _, hs, ht⟩
  · exact ⟨none, 0, by rw [h0], fun j hj => by omega⟩
  · refine ⟨_, _, rfl, fun j hj => ⟨g, 0, rfl, (Array.getElem?_eq_some_iff.1 hg).1, ?_⟩⟩
    have e : (ints L)[j]? = some (.int .u32 L[j]) := by simp [ints, hj]
    rw [← ht, Nat.mul_one, List.getElem?_take, if_pos hj] at e
    rw [Nat.zero_add]
    simp only [World.cell?, hg]
    simpa using e
theorem words_below {w w' : World} {a : Option Addr} {L : List Int} (h : WordsAt w a L) (hb : Below w.heap.size w w') : WordsAt w' a L := fun j hj => by
  obtain ⟨b, off, rfl, h1, h2⟩ := h j hj
  exact ⟨b, off, rfl, Nat.lt_of_lt_of_le h1 hb.size, (hb.cell (p := ⟨b, _, none⟩) h1).trans h2⟩
set_option maxHeartbeats 2000000 in
set_option maxRecDepth 20000 in
theorem same_any (a1 a2 : Option Addr) (c1 c2 : Nat) (L : List Int) (w : World) (h1 : WordsAt w a1 L) (h2 : WordsAt w a2 L) (hm : L.length ≤ 9223372036854775807) :
    Calls Tryz.prog 16 #[.slice a1 L.length c1, .slice a2 L.length c2] w fun e w' => e = .returned (.bool true) ∧ Below w.heap.size w w' := by
  have H1 : Hid (WordsAt w a1 L) := h1
  have H2 : Hid (WordsAt w a2 L) := h2
  clear h1 h2
  go_enter Tryz.func16, Tryz.ntmps16
  go_wp2
  go_loopw [5] (fun x wr => ∃ k : Nat, k ≤ L.length ∧ x = .int .i64 k ∧ Below w.heap.size w wr) (fun x _ => L.length - (intOf x).toNat)
  case atStart => exact ⟨0, by omega, rfl, Below.refl _ _⟩
  case round =>
    obtain ⟨k, hk, rfl, hbel⟩ := hrel
    by_cases hlt : k < L.length
    · have hd : decide ((k : Int) < L.length) = true := by simp; omega
      obtain ⟨b, off, rfl, hb1, hc⟩ := H1.out k hlt
      obtain ⟨b2, off2, rfl, hb2, hc2⟩ := H2.out k hlt
      have q1 : wr.cell? ⟨b, off + k, none⟩ = some (.int .u32 L[k]) := (hbel.cell (p := ⟨b, _, none⟩) hb1).trans hc
      have q2 : wr.cell? ⟨b2, off2 + k, none⟩ = some (.int .u32 L[k]) := (hbel.cell (p := ⟨b2, _, none⟩) hb2).trans hc2
      generalize L[k] = x at q1 q2 hc hc2
      clear hc hc2
      go_wp2
      go_quiet (fail)
      go_wp2
      go_roundw
      case rel => exact ⟨k + 1, by omega, by go_num, below_drewN hbel _⟩
      case measure => simp [intOf]; omega
    · obtain rfl : k = L.length := by omega
      have hd : decide ((L.length : Int) < L.length) = false := by simp
      go_wp2
      go_ret
      exact ⟨by simp, hbel⟩

theorem go_len : ∀ (l : List Bs) (n : Nat) (ws r : List Int), goP l n ws = .words r → r.length ≤ ws.length + l.length
  | [], n, ws, r, e => by
    simp only [goP] at e
    injection e with e
    subst e; simp
  | l :: t, n, ws, r, e => by
    rw [goP] at e
    split at e
    · have := go_len t _ ws r e; simp; omega
    · split at e
      · cases e
      · have := go_len t _ _ r e; simp at this ⊢; omega
theorem parse_len (t : Bs) : (parseW t).length ≤ 65537 := by
  unfold parseW
  split
  · simp
  · split
    · rename_i h l hl
      have h1 := go_len _ _ _ _ hl
      have h2 := parts_len 10 t
      simp at h1
      omega
    · simp
set_option maxHeartbeats 4000000 in
set_option maxRecDepth 20000 in
theorem one_walk (t : ByteArray) (w : World) (V : Vars w) (ht : t.size ≤ 9223372036854775807) :
    Calls Tryz.prog 7 #[.string t] w fun e w' => e = .returned (.bool true) ∧ Below w.heap.size w w' := by
  have HV : Hid (Vars w) := V
  have P1 : Hid (∀ X, Vars X → Calls Tryz.prog 14 #[.string t] X _) := fun X hX => parse_any t X hX
  have hbd := parse_bd t.data.toList
  have hpn := parse_none t.data.toList
  have hpz := parse_zero t.data.toList
  have hemp : t.data.toList = [] → textOk (parseW t.data.toList) = true := fun e => by rw [e]; exact parse_empty
  have hlen : (parseW t.data.toList).length ≤ 9223372036854775807 := Nat.le_trans (parse_len _) (by omega)
  have hsz : t.data.toList.length = t.size := by rw [Array.length_toList]; rfl
  have hemp2 : t.size = 0 → textOk (parseW t.data.toList) = true := fun e => hemp (List.eq_nil_of_length_eq_zero (by omega))
  clear V hemp hsz
  generalize parseW t.data.toList = L at P1 hbd hpn hlen hemp2
  generalize parseN t.data.toList = n at P1 hpn hpz
  generalize parseE t.data.toList = k at P1 hpn hpz
  by_cases hk : k = 0
  · subst hk
    obtain rfl := hpz rfl
    clear hpn hpz
    have hj : ∀ j (h : j < L.length), 0 ≤ L[j] ∧ L[j] ≤ 4294967295 := fun j h => hbd _ (List.getElem_mem h)
    have HJ : Hid (∀ j (h : j < L.length), 0 ≤ L[j] ∧ L[j] ≤ 4294967295) := hj
    cases hok : textOk L with
    | true =>
      obtain ⟨b1, b2, b3⟩ := text_back L hbd hok
      have P2 : Hid (∀ X, Vars X → Calls Tryz.prog 14 #[.string (bs (textT L))] X _) := fun X hX => parse_any (bs (textT L)) X hX
      rw [bs_data, b1, b2, b3] at P2
      have hE : textE L = 0 := by simp [textE, hok]
      have T1 : Hid (∀ X a c, Vars X → WordsAt X a L → Calls Tryz.prog 12 #[.slice a L.length c] X _) := fun X a c hX hA => text_any L a c X hX hj hA hlen
      rw [hE] at T1
      clear hbd hj b1 b2 b3 hok hemp2 hE
      generalize textT L = s at T1 P2
      go_enter Tryz.func7, Tryz.ntmps7
      go_wp2_with (first
        | (go_at_call 11; refine (shown6 _ HV.out).mono ?_; rintro e w1 ⟨rfl, hb1⟩; have V1 : Hid (Vars w1) := HV.out.below hb1 HV.out.big)
        | (go_at_call 14; have hx := V3; clear hx; refine (P2.out _ V3.out).mono ?_; rintro e w4 ⟨v4, rfl, o4, hb4⟩; obtain ⟨a4, c4, rfl, A4⟩ := words_own o4; have O4 : Hid (WordsAt w4 a4 L ∧ WordsAt w4 a2 L) := ⟨A4, words_below (words_below O2.out hb3) hb4⟩; clear A4 o4)
        | (go_at_call 14; refine (P1.out _ V1.out).mono ?_; rintro e w2 ⟨v2, rfl, o2, hb2⟩; obtain ⟨a2, c2, rfl, A2⟩ := words_own o2; have O2 : Hid (WordsAt w2 a2 L) := A2; have V2 : Hid (Vars w2) := V1.out.below hb2 V1.out.big; clear A2 o2)
        | (go_at_call 12; refine (T1.out _ _ _ V2.out O2.out).mono ?_; rintro e w3 ⟨rfl, hb3⟩; have V3 : Hid (Vars w3) := V2.out.below hb3 V2.out.big)
        | (go_at_call 16; refine (same_any _ _ _ _ L _ O4.out.1 O4.out.2 hlen).mono ?_; rintro e w5 ⟨rfl, hb5⟩))
      go_ret
      have B2 : Below w.heap.size w w2 := hb1.trans (hb2.mono hb1.size)
      have B3 : Below w.heap.size w w3 := B2.trans (hb3.mono B2.size)
      have B4 : Below w.heap.size w w4 := B3.trans (hb4.mono B3.size)
      exact ⟨rfl, B4.trans (hb5.mono B4.size)⟩
    | false =>
      have hE : textE L = 60 := by simp [textE, hok]
      have T1 : Hid (∀ X a c, Vars X → WordsAt X a L → Calls Tryz.prog 12 #[.slice a L.length c] X _) := fun X a c hX hA => text_any L a c X hX hj hA hlen
      rw [hE] at T1
      have hpos : decide (0 < t.size) = true := by
        have : t.size ≠ 0 := fun e => by have := hemp2 e; rw [hok] at this; cases this
        simp; omega
      have HP : Hid (decide (0 < t.size) = true) := hpos
      clear hpos
      clear hbd hj hok hemp2 hE
      generalize textT L = s at T1
      go_enter Tryz.func7, Tryz.ntmps7
      go_wp2_with (first
        | (go_at_call 11; refine (shown6 _ HV.out).mono ?_; rintro e w1 ⟨rfl, hb1⟩; have V1 : Hid (Vars w1) := HV.out.below hb1 HV.out.big)
        | (go_at_call 14; refine (P1.out _ V1.out).mono ?_; rintro e w2 ⟨v2, rfl, o2, hb2⟩; obtain ⟨a2, c2, rfl, A2⟩ := words_own o2; have O2 : Hid (WordsAt w2 a2 L) := A2; have V2 : Hid (Vars w2) := V1.out.below hb2 V1.out.big; clear A2 o2)
        | (go_at_call 12; refine (T1.out _ _ _ V2.out O2.out).mono ?_; rintro e w3 ⟨rfl, hb3⟩; have V3 : Hid (Vars w3) := V2.out.below hb3 V2.out.big))
      go_ret
      have B2 : Below w.heap.size w w2 := hb1.trans (hb2.mono hb1.size)
      exact ⟨ret_bool HP.out, B2.trans (hb3.mono B2.size)⟩
  · obtain ⟨rfl, hn⟩ := hpn hk
    have hkb : (k != 0) = true := by simpa using hk
    have hnb : decide (0 ≤ n) = true := by simpa using hn
    clear hbd hpz hemp2 hlen hpn
    go_enter Tryz.func7, Tryz.ntmps7
    go_wp2_with (first
      | (go_at_call 11; refine (shown6 _ HV.out).mono ?_; rintro e w1 ⟨rfl, hb1⟩; have V1 : Hid (Vars w1) := HV.out.below hb1 HV.out.big)
      | (go_at_call 14; refine (P1.out _ V1.out).mono ?_; rintro e w2 ⟨v2, rfl, o2, hb2⟩; obtain ⟨a2, c2, rfl, A2⟩ := words_own o2; clear A2 o2))
    go_ret
    exact ⟨rfl, hb1.trans (hb2.mono hb1.size)⟩
end Go.Proofs.YtkidfnhgknkpiaaGreatDoor
