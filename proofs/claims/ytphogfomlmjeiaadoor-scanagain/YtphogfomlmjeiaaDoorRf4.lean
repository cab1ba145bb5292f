/-
  The document's layer 8: quoted, sign, number.
-/
import Derived.Test.YtphogfomlmjeiaaDoorRf3
import Derived.Test.YtphogfomlmjeiaaDoorTk2
namespace Go.Proofs.YtphogfomlmjeiaaDoor
set_option linter.unusedVariables false
set_option linter.unusedSimpArgs false
open Go.ChangeShapes Go.WideShapes Go.ChangeAt Go.RowKit
attribute [local go_sem ↓] loadTk_seal storeTk_seal loadKeys_seal loadSigns_seal
attribute [local go_sem] loadTk_run storeTk_run rowAt_at rowAt_old rowAt_drew rowAt_drewN roomTk_new roomAt_old roomAt_drew roomAt_drewN putTk_new Tk.fold putRow_past rowTk_put size_put putRow_drew putRow_drewN alloc_drewN setCell_drewN Tk.at0 Tk.at1 Tk.at2 Tk.at3 Tk.size Tk.set0 Tk.set1 Tk.set2 Tk.set3 Tk.ne rowAt_set rowAt_far roomAt_far

theorem quoP_200 : ∀ (l : Bs) (k : Nat), 200 < k → quoP k l = none ∨ ∃ n, quoP k l = some n ∧ 200 < n
  | [], _, _ => .inl rfl
  | c :: r, k, h => by
    rw [quoP]
    split
    · exact .inr ⟨k, rfl, h⟩
    · split
      · exact .inl rfl
      · exact quoP_200 r (k + 1) (by omega)
def quoE (p : Nat) : Option Nat → Int
  | some k => ((p + 1 + k + 1 : Nat) : Int)
  | none => -1
/-- The search for a quote, by the document: at most so many bytes. -/
def quoD (k : Nat) (l : Bs) : Option Nat := if k ≤ 200 then quoP k l else none
theorem rquoted_any (l : Bs) (hl : l.length ≤ 1000000000) (p : Nat) (hp : p < l.length) (w : World) : Calls Tryd.prog 40 #[.string (bs l), .int .i64 (p : Int)] w fun e w' => e = .returned (.int .i64 (quoE p (quoP 0 (l.drop (p + 1))))) ∧ w' = w := by
  have hz := bs_size l
  obtain ⟨r, hr⟩ : ∃ r, quoP 0 (l.drop (p + 1)) = r := ⟨_, rfl⟩
  rw [hr]
  have HR : Hid (quoD 0 (l.drop (p + 1 + 0)) = r) := hr
  clear hr
  go_enter Tryd.func40, Tryd.ntmps40
  go_wp2
  go_loopg [4, 5] (l.length - p) (fun gf s4 s5 wx => ∃ k : Nat, s4 = .int .i64 0 ∧ s5 = .int .i64 ((p + 1 + k : Nat) : Int) ∧ p + 1 + k ≤ l.length ∧ l.length ≤ p + 1 + k + gf ∧ wx = w ∧ Hid (quoD k (l.drop (p + 1 + k)) = r))
  case atStart => exact ⟨0, rfl, by simp, by omega, by omega, rfl, HR⟩
  case round =>
    obtain ⟨k, rfl, rfl, hk1, hk2, hww, HQ⟩ := hrel
    obtain rfl := hww.symm
    clear HR
    have ks : ((p + 1 + k : Nat) : Int) - (p : Int) - 1 = (k : Int) := by omega
    by_cases hlt : p + 1 + k < l.length
    · have d0 : decide (((p + 1 + k : Nat) : Int) < (l.length : Int)) = true := decide_eq_true (by omega)
      by_cases h200 : k ≤ 200
      · obtain ⟨g', rfl⟩ : ∃ g', gk = g' + 1 := ⟨gk - 1, by omega⟩
        have d1 : decide (((p + 1 + k : Nat) : Int) - (p : Int) - 1 ≤ 200) = true := decide_eq_true (by omega)
        have d1' : decide ((k : Int) ≤ 200) = true := decide_eq_true (by omega)
        have IX := index_str l (p + 1 + k) hlt ((p + 1 + k : Nat) : Int) rfl
        have hQ := HQ.out
        unfold quoD at hQ
        rw [if_pos h200, drop_cons hlt, quoP] at hQ
        obtain ⟨c, hc⟩ : ∃ c, l[p + 1 + k]'hlt = c := ⟨_, rfl⟩
        rw [hc] at IX hQ
        have hc8 := c.toNat_lt
        clear HQ hc
        by_cases h34 : c = 34
        · rw [if_pos h34] at hQ
          subst h34
          have HF : Hid (r = some k) := hQ.symm
          clear hQ
          generalize hP : p + 1 + k = P at *
          go_wp2
          go_ret
          exact ⟨ret_int (by rw [HF.out]; simp [quoE]; omega), rfl⟩
        · rw [if_neg h34] at hQ
          have n34 : ((c.toNat : Int) == 34) = false := u8_ne (k := 34) (by omega) h34
          by_cases hb : c.toNat < 32 ∨ 126 < c.toNat
          · rw [if_pos (by omega)] at hQ
            have HF : Hid (r = none) := hQ.symm
            clear hQ
            generalize p + 1 + k = P at *
            by_cases h32 : c.toNat < 32
            · have k1 : decide ((c.toNat : Int) < 32) = true := decide_eq_true (by omega)
              go_wp2
              go_ret
              exact ⟨ret_int (by rw [HF.out]; rfl), rfl⟩
            · have k1 : decide ((c.toNat : Int) < 32) = false := decide_eq_false (by omega)
              have k2 : decide ((126 : Int) < (c.toNat : Int)) = true := decide_eq_true (by omega)
              go_wp2
              go_ret
              exact ⟨ret_int (by rw [HF.out]; rfl), rfl⟩
          · have k1 : decide ((c.toNat : Int) < 32) = false := decide_eq_false (by omega)
            have k2 : decide ((126 : Int) < (c.toNat : Int)) = false := decide_eq_false (by omega)
            have HN : Hid (quoD (k + 1) (l.drop (p + 1 + (k + 1))) = r) := by
              show quoD (k + 1) (l.drop (p + 1 + (k + 1))) = r
              unfold quoD
              by_cases h2 : k = 200
              · rw [if_pos (by omega)] at hQ
                rw [if_neg (by omega)]; exact hQ
              · rw [if_neg (by omega)] at hQ
                rw [if_pos (by omega)]; exact hQ
            clear hQ
            generalize hP : p + 1 + k = P at *
            go_wp2
            go_roundg g'
            case measure => omega
            case rel => exact ⟨k + 1, rfl, by first | rfl | (congr 1; omega), by omega, by omega, rfl, HN⟩
      · have d1 : decide (((p + 1 + k : Nat) : Int) - (p : Int) - 1 ≤ 200) = false := decide_eq_false (by omega)
        have d1' : decide ((k : Int) ≤ 200) = false := decide_eq_false (by omega)
        have HF : Hid (r = none) := by rw [← HQ.out]; unfold quoD; rw [if_neg h200]; rfl
        clear HQ
        generalize hP : p + 1 + k = P at *
        go_wp2
        go_ret
        exact ⟨ret_int (by rw [HF.out]; rfl), rfl⟩
    · have d0 : decide (((p + 1 + k : Nat) : Int) < (l.length : Int)) = false := decide_eq_false (by omega)
      have HF : Hid (r = none) := by
        rw [← HQ.out, List.drop_of_length_le (by omega)]; unfold quoD; split <;> rfl
      clear HQ
      generalize hP : p + 1 + k = P at *
      go_wp2
      go_ret
      exact ⟨ret_int (by rw [HF.out]; rfl), rfl⟩
def signOf (l : Bs) : Bs := (signsL.find? fun s => s.isPrefixOf l).getD []
theorem pre_bool (s x : Bs) : (x.take s.length == s) = s.isPrefixOf x := by
  rw [Bool.eq_iff_iff, List.isPrefixOf_iff_prefix, beq_iff_eq]
  constructor
  · intro h; rw [← h]; exact List.take_prefix _ _
  · rintro ⟨t, rfl⟩; simp
theorem slice_mid2 (l : Bs) (k n : Nat) (h : k + n ≤ l.length) (w : World) : (Instr.slice 9 (.string (bs l)) (some (.int .i64 (k : Int))) (some (.int .i64 ((k : Int) + (n : Int)))) none).run Tryd.prog w = .ok (.string (bs ((l.drop k).take n))) w := by
  rw [run_slice_string w 9 (bs l) .i64 .i64 (k : Int) ((k : Int) + (n : Int)) Tryd.underlying9 (by omega) (by omega) (by rw [bs_size]; omega)]
  have e : ((k : Int) + (n : Int)).toNat = k + n := by omega
  rw [e, Int.toNat_natCast, bs_mid, show k + n - k = n by omega]
set_option maxHeartbeats 2000000 in
theorem rsign_any (l : Bs) (hl : l.length ≤ 1000000000) (p : Nat) (hp : p ≤ l.length) (w : World) : Calls Tryd.prog 41 #[.string (bs l), .int .i64 (p : Int)] w fun e w' => e = .returned (.string (bs (signOf (l.drop p)))) ∧ Below w.heap.size w w' := by
  have hz := bs_size l
  obtain ⟨r, hr⟩ : ∃ r, signOf (l.drop p) = r := ⟨_, rfl⟩
  rw [hr]
  have HR : Hid (((signsL.drop 0).find? fun s => s.isPrefixOf (l.drop p)).getD [] = r) := hr
  clear hr
  go_enter Tryd.func41, Tryd.ntmps41
  go_wp2_with (go_at_call 48; refine (rsigns_any _).mono ?_; rintro e w1 ⟨g, rfl, hg1, hg2, hgc, hb1⟩)
  have HC : Hid (∀ o (ho : o < signsL.length), w1.cell? ⟨g, o, none⟩ = some (.string (bs signsL[o]))) := hgc
  clear hgc
  go_loopg [4, 6, 7] 26 (fun gf s4 s6 s7 wx => ∃ i n : Nat, s4 = .string ⟨#[]⟩ ∧ s6 = .int .i64 (i : Int) ∧ i + gf = 26 ∧ wx = w1.drewN n ∧ Hid (((signsL.drop i).find? fun s => s.isPrefixOf (l.drop p)).getD [] = r))
  case atStart => exact ⟨0, 0, rfl, rfl, rfl, by rw [World.drewN_zero], HR⟩
  case round =>
    obtain ⟨i, m, rfl, rfl, hi, hww, HK⟩ := hrel
    subst hww
    clear HR
    by_cases hlt : i < 26
    · obtain ⟨g', rfl⟩ : ∃ g', gk = g' + 1 := ⟨gk - 1, by omega⟩
      have d0 : decide ((i : Int) < 26) = true := decide_eq_true (by omega)
      have hcl := HC.out i hlt
      have hd : signsL.drop i = signsL[i]'hlt :: signsL.drop (i + 1) := List.drop_eq_getElem_cons hlt
      have hx2 := signs_one (signsL[i]'hlt) (List.getElem_mem _)
      obtain ⟨x, hx⟩ : ∃ x, signsL[i]'hlt = x := ⟨_, rfl⟩
      rw [hx] at hcl hd hx2
      have hxz := bs_size x
      have HK := HK.out
      rw [hd, find_cons'] at HK
      clear hx hd HC
      have kw1 : IntKind.i64.wrap ((l.length : Int) - (p : Int)) = (l.length : Int) - (p : Int) := by rw [IntKind.wrap_i64]; omega
      have kw2 : IntKind.i64.wrap ((p : Int) + (x.length : Int)) = (p : Int) + (x.length : Int) := by rw [IntKind.wrap_i64]; omega
      have b1 : (0 : Int) ≤ (i : Int) := by omega
      have b2 : (i : Int) < 26 := by omega
      by_cases hln : p + x.length ≤ l.length
      · have d1 : decide ((x.length : Int) ≤ (l.length : Int) - (p : Int)) = true := decide_eq_true (by omega)
        have SL := slice_mid2 l p x.length hln
        have hq := str_eq ((l.drop p).take x.length) x
        rw [pre_bool] at hq
        generalize bs ((l.drop p).take x.length) = y at *
        generalize x.length = xn at *
        cases he : x.isPrefixOf (l.drop p)
        · rw [he] at HK hq
          have HN : Hid (((signsL.drop (i + 1)).find? fun s => s.isPrefixOf (l.drop p)).getD [] = r) := HK
          clear HK he
          go_wp2
          go_quiet (fail)
          go_wp2
          go_roundg g'
          case measure => omega
          case rel => exact ⟨i + 1, _, rfl, by simp, by omega, rfl, HN⟩
        · rw [he] at HK hq
          have HF : Hid (x = r) := HK
          clear HK he
          go_wp2
          go_quiet (fail)
          go_wp2
          go_ret
          exact ⟨ret_str (by rw [HF.out]), bdrewN hb1 _⟩
      · have d1 : decide ((x.length : Int) ≤ (l.length : Int) - (p : Int)) = false := decide_eq_false (by omega)
        have he : x.isPrefixOf (l.drop p) = false := by
          cases he : x.isPrefixOf (l.drop p)
          · rfl
          · have := (List.isPrefixOf_iff_prefix.1 he).length_le
            rw [List.length_drop] at this; omega
        rw [he] at HK
        have HN : Hid (((signsL.drop (i + 1)).find? fun s => s.isPrefixOf (l.drop p)).getD [] = r) := HK
        clear HK he
        generalize x.length = xn at *
        go_wp2
        go_region
        go_wp2
        go_roundg g'
        case measure => omega
        case rel => exact ⟨i + 1, _, rfl, by simp, by omega, rfl, HN⟩
    · obtain rfl : i = 26 := by omega
      have HF : Hid ([] = r) := HK.out
      clear HK HC
      go_wp2
      go_ret
      exact ⟨ret_str (by rw [← HF.out]; rfl), bdrewN hb1 _⟩
end Go.Proofs.YtphogfomlmjeiaaDoor
