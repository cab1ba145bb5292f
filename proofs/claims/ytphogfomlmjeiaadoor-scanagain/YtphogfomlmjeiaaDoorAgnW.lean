/-
  The walk of the law ScanAgain: it returns true.
-/
import Derived.Test.YtphogfomlmjeiaaDoorOws
import Derived.Test.YtphogfomlmjeiaaDoorRdsW
namespace Go.Proofs.YtphogfomlmjeiaaDoor
set_option linter.unusedVariables false
set_option linter.unusedSimpArgs false
open Go.ChangeShapes Go.WideShapes Go.ChangeAt Go.RowKit
attribute [local go_sem ↓] loadTk_seal storeTk_seal loadKeys_seal loadSigns_seal
attribute [local go_sem] loadTk_run storeTk_run rowAt_at rowAt_old rowAt_drew rowAt_drewN roomTk_new roomAt_old roomAt_drew roomAt_drewN putTk_new Tk.fold putRow_past rowTk_put size_put putRow_drew putRow_drewN alloc_drewN setCell_drewN Tk.at0 Tk.at1 Tk.at2 Tk.at3 Tk.size Tk.set0 Tk.set1 Tk.set2 Tk.set3 Tk.ne rowAt_set rowAt_far roomAt_far
attribute [local go_sem ↓] appU_seal

/-- What is written ahead of a token. -/
def sepf (len : Nat) (f : Nat → Bool) (i : Nat) : Bs := if i = 0 then [] else if i ≤ len ∧ f (i - 1) = true then rmk else [32]
theorem sepf_ok (len : Nat) (f : Nat → Bool) : SepF (sepf len f) := ⟨rfl, fun i hi => by unfold sepf; rw [if_neg (by omega)]; split; exact .inr rfl; exact .inl rfl⟩
/-- How far the text is built: its bytes, the tokens' places, the tokens. -/
structure Bt (w : World) (B : Nat) (F : Nat → Bs) (ts : List Tok) (i : Nat) (v9 v10 lv : Value) : Prop where
  text : OwB w B v9 (bld F 0 (ts.take i))
  plcs : OwI w B v10 (plc F 0 0 (ts.take i))
  toks : w.ownsRow B 29 4 lv ts.length (tokC ts)
theorem Bt.next {w w2 w3 w4 : World} {B : Nat} {F : Nat → Bs} {ts : List Tok} {i : Nat} {v9 v10 lv v2 v4 : Value} (hi : i < ts.length)
    (t4 : OwB w4 B v4 ((bld F 0 (ts.take i) ++ F i) ++ Go.Proofs.YtphogfomlmjeiaaDoor.wr ts[i])) (p4 : OwI w4 B v2 (plc F 0 0 (ts.take i) ++ [(bld F 0 (ts.take i) ++ F i).length])) (l4 : w4.ownsRow B 29 4 lv ts.length (tokC ts)) : Bt w4 B F ts (i + 1) v4 v2 lv := by
  have e : ts.take (i + 1) = ts.take i ++ [ts[i]] := (List.take_succ_eq_append_getElem hi)
  have hl : (ts.take i).length = i := by rw [List.length_take]; omega
  refine ⟨?_, ?_, l4⟩
  · rw [e, bld_snoc, hl, Nat.zero_add, ← List.append_assoc]; exact t4
  · rw [e, plc_snoc, hl, Nat.zero_add, Nat.zero_add, ← List.length_append]; exact p4
set_option maxHeartbeats 4000000 in
set_option maxRecDepth 20000 in
theorem again_bad (l : Bs) (a : Option Addr) (len cap : Nat) (P : Nat) (x : Int) (hA : allP l = ⟨[], P, x⟩) (hx : x ≠ 0) (w : World) (V : Vars w) : Calls Tryd.prog 6 #[.string (bs l), .slice a len cap] w fun e w' => e = .returned (.bool true) ∧ Below w.heap.size w w' := by
  have AL : Hid (∀ X, Vars X → Calls Tryd.prog 8 #[.string (bs l)] X _) := fun X VX => all_none l P x hA X VX
  have x0 : (x != 0) = true := by simpa using hx
  generalize bs l = src at *
  go_enter Tryd.func6, Tryd.ntmps6
  go_wp2_with (first | (go_at_call 11; refine (shown_any _ (V.call hb1)).mono ?_; rintro e w2 ⟨rfl, hb2⟩) | (go_at_call 8; refine (AL.out _ V).mono ?_; rintro e w1 ⟨a1, c1, rfl, hb1⟩))
  go_ret
  exact ⟨rfl, Below.call hb1 hb2 (Nat.le_refl _)⟩
theorem read_again {F : Nat → Bs} (hF : SepF F) (d : List Tok) (q : Nat) (hd : ∀ x ∈ d, TokOk x) (hl : (bld F 0 (d ++ [⟨0, [], 0, q⟩])).length ≤ 16384) : allP (bld F 0 (d ++ [⟨0, [], 0, q⟩])) = ⟨zipT (d ++ [⟨0, [], 0, q⟩]) (plc F 0 0 (d ++ [⟨0, [], 0, q⟩])), 0, 0⟩ := by
  rw [allP_goX _ hl]; exact bld_read hF q d 0 0 hd
/-- A row of the call's own that stands where another of another kind grew, a new block ahead. -/
theorem grow_apart {w w' : World} {B e1 e2 s1 s2 n1 n2 : Nat} {v1 v2 : Value} {xs1 xs2 : List Value} {X : Obj} (h2 : w.ownsRow B e2 s2 v2 n2 xs2) (h1 : w.ownsRow B e1 s1 v1 n1 xs1) (hne : e1 ≠ e2) (hg : (w.alloc X).grownBy w' v1.ownBlock) : w'.ownsRow B e2 s2 v2 n2 xs2 := own_apart (h2.alloc _) (h1.alloc _) hne hg
theorem grow_below {w w0 w' : World} {e1 s1 n1 : Nat} {v1 : Value} {xs1 : List Value} {X : Obj} (hb : Below w0.heap.size w0 w) (h1 : w.ownsRow w0.heap.size e1 s1 v1 n1 xs1) (hg : (w.alloc X).grownBy w' v1.ownBlock) : Below w0.heap.size w0 w' := by
  have := hb.size
  exact (hb.alloc (by omega) _).grown hg (by simp; omega) (fun j hj => (own_lt h1 _ hj).1)
theorem grow_below0 {w w0 w' : World} {e1 s1 n1 : Nat} {v1 : Value} {xs1 : List Value} (hb : Below w0.heap.size w0 w) (h1 : w.ownsRow w0.heap.size e1 s1 v1 n1 xs1) (hg : w.grownBy w' v1.ownBlock) : Below w0.heap.size w0 w' :=
  hb.grown hg hb.size (fun j hj => (own_lt h1 _ hj).1)
theorem tok_ld {w : World} {B g n c : Nat} {ts : List Tok} (h : w.ownsRow B 29 4 (.slice (some ⟨g, 0, none⟩) n c) ts.length (tokC ts)) (hn : n = ts.length) (i : Nat) (hi : i < ts.length) : TkAt w g (i * 4) ts[i].tk := by
  subst hn
  obtain ⟨g', c', he, _, _, _, ht⟩ := own_at2 h (fun e => by rw [e] at hi; simp at hi)
  cases he
  exact ht i hi
set_option maxHeartbeats 4000000 in
set_option maxRecDepth 20000 in
theorem again_fine (l : Bs) (a : Option Addr) (len cap : Nat) (f : Nat → Bool) (d : List Tok) (q : Nat) (hA : allP l = ⟨d ++ [⟨0, [], 0, q⟩], 0, 0⟩) (hok : ∀ x ∈ d, TokOk x) (w : World) (V : Vars w) (hR : RdBo w a len f) : Calls Tryd.prog 6 #[.string (bs l), .slice a len cap] w fun e w' => e = .returned (.bool true) ∧ Below w.heap.size w w' := by
  have hcnt0 := allP_count l
  rw [hA] at hcnt0
  have hcnt : (d ++ [(⟨0, [], 0, q⟩ : Tok)]).length ≤ 16385 := hcnt0
  clear hcnt0
  have hF := sepf_ok len f
  have hFd : ∀ i, sepf len f i = if i = 0 then [] else if i ≤ len ∧ f (i - 1) = true then rmk else [32] := fun _ => rfl
  have RE : Hid ((bld (sepf len f) 0 (d ++ [⟨0, [], 0, q⟩])).length ≤ 16384 → allP (bld (sepf len f) 0 (d ++ [⟨0, [], 0, q⟩])) = ⟨zipT (d ++ [⟨0, [], 0, q⟩]) (plc (sepf len f) 0 0 (d ++ [⟨0, [], 0, q⟩])), 0, 0⟩) := read_again hF d q hok
  have htl : ∀ x ∈ d ++ [(⟨0, [], 0, q⟩ : Tok)], x.t.length ≤ 16384 := fun x hx => by
    rcases List.mem_append.1 hx with h | h
    · exact (hok x h).len
    · simp only [List.mem_singleton] at h; rw [h]; simp
  have hne : d ++ [(⟨0, [], 0, q⟩ : Tok)] ≠ [] := by simp
  have hlp := (hR.1)
  have HR : Hid (∀ i, i < len → ∃ b off, a = some ⟨b, off, none⟩ ∧ w.cell? ⟨b, off + i, none⟩ = some (.bool (f i))) := hR.2
  generalize d ++ [(⟨0, [], 0, q⟩ : Tok)] = ts at *
  have BL : Hid (∀ i, (bld (sepf len f) 0 (ts.take i)).length ≤ 300000000) := fun i => by
    have h1 := bld_len hF (ts.take i) 0 (fun x hx => htl x (List.mem_of_mem_take hx))
    have h2 : (ts.take i).length ≤ 16385 := by rw [List.length_take]; omega
    show _ ≤ _
    omega
  have HFd : Hid (∀ i, sepf len f i = if i = 0 then [] else if i ≤ len ∧ f (i - 1) = true then rmk else [32]) := hFd
  have HF : Hid (SepF (sepf len f)) := hF
  have HTL : Hid (∀ x ∈ ts, x.t.length ≤ 16384) := htl
  generalize sepf len f = F at *
  have AL : Hid (∀ X, Vars X → Calls Tryd.prog 8 #[.string (bs l)] X _) := fun X VX => all_lies l ts hA hne X VX
  have AO : Hid (∀ X, Vars X → Calls Tryd.prog 8 #[.string (bs l)] X fun e w' => ∃ g c n, e = .returned (.tuple #[.slice (some ⟨g, 0, none⟩) n c, .int .i64 0, .int .i64 0]) ∧ n = ts.length ∧ w'.ownsRow X.heap.size 29 4 (.slice (some ⟨g, 0, none⟩) n c) ts.length (tokC ts) ∧ Below X.heap.size X w') := fun X VX => by
    have h := all_any l X VX
    rw [hA] at h
    refine h.mono fun e w' ⟨v, he, ho, hb⟩ => ?_
    obtain ⟨g, c, rfl, _⟩ := own_at2 ho hne
    exact ⟨g, c, _, he, rfl, ho, hb⟩
  clear AL hA hok hR hF hFd htl
  generalize bs l = src at *
  go_enter Tryd.func6, Tryd.ntmps6
  go_wp2_with (first | (go_at_call 11; refine (shown_any _ (V.call hb1)).mono ?_; rintro e w2 ⟨rfl, hb2⟩) | (go_at_call 8; refine (AO.out _ V).mono ?_; rintro e w1 ⟨g, c, n, rfl, hn, how, hb1⟩))
  have how2 := own_call how hb2
  have hB2 : Below w.heap.size w w2 := Below.call hb1 hb2 (Nat.le_refl _)
  have HV : Hid (Vars w) := V
  subst hn
  have HN : Hid (ts.length = ts.length) := rfl
  have hnle : ts.length ≤ 16385 := by omega
  clear how hb1 hb2 V AO
  go_loopg [9, 10, 11] ts.length (fun gf s9 s10 s11 wx => ∃ (i n9 n10 c9 c10 : Nat) (a9 a10 : Option Addr), s9 = .slice a9 n9 c9 ∧ s10 = .slice a10 n10 c10 ∧ s11 = .int .i64 (i : Int) ∧ i + gf = ts.length ∧ Hid (n9 = (bld F 0 (ts.take i)).length ∧ n10 = i) ∧ Bt wx w.heap.size F ts i (.slice a9 n9 c9) (.slice a10 n10 c10) (.slice (some ⟨g, 0, none⟩) ts.length c) ∧ Below w.heap.size w wx)
  case atStart => exact ⟨0, 0, 0, 0, 0, none, none, rfl, rfl, rfl, by omega, ⟨rfl, rfl⟩, ⟨⟨rfl, .inl ⟨rfl, rfl⟩⟩, ⟨rfl, .inl ⟨rfl, rfl⟩⟩, how2⟩, hB2⟩
  case round =>
    obtain ⟨i, n9, n10, c9, c10, a9, a10, rfl, rfl, rfl, hi, HL, hbt, hbx⟩ := hrel
    by_cases hlt : i < ts.length
    · obtain ⟨g', rfl⟩ : ∃ g', gk = g' + 1 := ⟨gk - 1, by omega⟩
      have d0 : decide ((i : Int) < (ts.length : Int)) = true := decide_eq_true (by omega)
      have hits : i < ts.length := hlt
      have hBz := hbx.size
      have hbl := BL.out i
      have hxt := HTL.out ts[i] (List.getElem_mem _)
      have hwl := wr_len hxt
      have WT : Hid (∀ W, Calls Tryd.prog 16 #[.agg ts[i].tk.cells] W fun e w' => e = .returned (.string (bs (Go.Proofs.YtphogfomlmjeiaaDoor.wr ts[i]))) ∧ Below W.heap.size W w') := fun W => written_any ts[i] hxt W
      by_cases hi0 : i = 0
      · have k0 : decide ((0 : Int) < (i : Int)) = false := decide_eq_false (by omega)
        have k0n : decide (0 < i) = false := decide_eq_false (by omega)
        have k0p : ¬ (0 : Int) < (i : Int) := by omega
        have k0q : ¬ 0 < i := by omega
        have hFi : F i = [] := by rw [HFd.out]; rw [if_pos (by omega)]
        clear hi0
        obtain ⟨a2, m2, c2, w5, hr2, hm2, oi2, hg2⟩ := app_place hbt.plcs n9 (by rw [plc_len, List.length_take]; omega) (by omega)
        have ob2 : OwB w5 w.heap.size (.slice a9 n9 c9) (bld F 0 (ts.take i) ++ F i) := by rw [hFi, List.append_nil]; exact grow_apart hbt.text hbt.plcs (by decide) hg2
        have ol2 := grow_apart hbt.toks hbt.plcs (by decide) hg2
        have hb5 := grow_below hbx hbt.plcs hg2
        have hq : n9 = (bld F 0 (ts.take i) ++ F i).length := by rw [hFi, List.append_nil]; exact HL.out.1
        have hz5 := hb5.size
        have hsl : (F i).length ≤ 9 := sep_len HF.out i
        have LD := (tok_ld ol2 rfl i hits).load
        have OB : Hid (OwB w5 w.heap.size (.slice a9 n9 c9) (bld F 0 (ts.take i) ++ F i)) := ob2
        have OI : Hid (OwI w5 w.heap.size (.slice a2 m2 c2) (plc F 0 0 (ts.take i) ++ [(bld F 0 (ts.take i) ++ F i).length])) := by rw [← hq]; exact oi2
        have OL : Hid (w5.ownsRow w.heap.size 29 4 (.slice (some ⟨g, 0, none⟩) ts.length c) ts.length (tokC ts)) := ol2
        have HM2 : Hid (m2 = i + 1) := by rw [hm2, List.length_append, plc_len, List.length_take]; show min i ts.length + 1 = i + 1; omega
        have HB5 : Hid (Below w.heap.size w w5) := hb5
        have HBL : Hid ((bld F 0 (ts.take i) ++ F i).length + (Go.Proofs.YtphogfomlmjeiaaDoor.wr ts[i]).length ≤ 1000000000 ∧ w.heap.size ≤ w5.heap.size) := ⟨by rw [List.length_append]; omega, hz5⟩
        clear hbt hbx ob2 oi2 ol2 hb5 hm2 hq hsl hwl hxt hbl HL
        generalize ts[i].tk = TT at *
        go_wp2_with (go_at_call 16; refine (WT.out _).mono ?_; rintro e w6 ⟨rfl, hb6⟩; obtain ⟨a7, m7, c7, w7, hr7, hm7, ob7, hg7⟩ := app_text (own_call OB.out hb6) (Go.Proofs.YtphogfomlmjeiaaDoor.wr ts[i]) HBL.out.1 (Nat.le_trans HBL.out.2 hb6.size); have HM7 : Hid (m7 = ((bld F 0 (ts.take i) ++ F i) ++ Go.Proofs.YtphogfomlmjeiaaDoor.wr ts[i]).length) := hm7; clear hm7)
        go_roundg g'
        case measure => omega
        case rel =>
          refine ⟨i + 1, m7, m2, c7, c2, a7, a2, rfl, rfl, by simp, by omega, ⟨?_, HM2.out⟩, Bt.next (w := w7) (w2 := w7) (w3 := w7) (v9 := .slice a7 m7 c7) (v10 := .slice a7 m7 c7) hits ob7 (own_apart (own_call OI.out hb6) (own_call OB.out hb6) (by decide) hg7) (own_apart (own_call OL.out hb6) (own_call OB.out hb6) (by decide) hg7), ?_⟩
          · have e : ts.take (i + 1) = ts.take i ++ [ts[i]] := (List.take_succ_eq_append_getElem hits)
            have hl : (ts.take i).length = i := by rw [List.length_take]; omega
            rw [HM7.out, e, bld_snoc, hl, Nat.zero_add, ← List.append_assoc]
          · exact grow_below0 (Below.call HB5.out hb6 (Nat.le_refl _)) (own_call OB.out hb6) hg7
      · have k0 : decide ((0 : Int) < (i : Int)) = true := decide_eq_true (by omega)
        have kw : IntKind.i64.wrap ((i : Int) - 1) = (i : Int) - 1 := by rw [IntKind.wrap_i64]; omega
        by_cases hle : i ≤ len
        · have k1 : decide ((i : Int) ≤ (len : Int)) = true := decide_eq_true (by omega)
          obtain ⟨b, off, rfl, hc⟩ := HR.out (i - 1) (by omega)
          have cR : wr.cell? ⟨b, off + (i - 1), none⟩ = some (.bool (f (i - 1))) := (hbx.cell (p := ⟨b, _, none⟩) (World.block_lt_of_cell? w _ hc)).trans hc
          have b1 : (0 : Int) ≤ (i : Int) - 1 := by omega
          have b2 : (i : Int) - 1 < (len : Int) := by omega
          have b3 : ((i : Int) - 1).toNat = i - 1 := by omega
          cases hfi : f (i - 1)
          · have hcond : ¬ (i ≤ len ∧ f (i - 1) = true) := fun h => by rw [hfi] at h; cases h.2
            rw [hfi] at cR
            have hFi : F i = [32] := by rw [HFd.out, if_neg (by omega), if_neg hcond]
            obtain ⟨a1, m1, c1, w4, hr1, hm1, ob1, hg1⟩ := app_blank hbt.text (by omega) (by omega)
            have op1 := grow_apart hbt.plcs hbt.text (by decide) hg1
            have ol1 := grow_apart hbt.toks hbt.text (by decide) hg1
            have hb4 := grow_below hbx hbt.text hg1
            rw [← hFi] at hm1 ob1
            have hz4 := hb4.size
            obtain ⟨a2, m2, c2, w5, hr2, hm2, oi2, hg2⟩ := app_place op1 m1 (by rw [plc_len, List.length_take]; omega) (by omega)
            have ob2 : OwB w5 w.heap.size (.slice a1 m1 c1) (bld F 0 (ts.take i) ++ F i) := grow_apart ob1 op1 (by decide) hg2
            have ol2 := grow_apart ol1 op1 (by decide) hg2
            have hb5 := grow_below hb4 op1 hg2
            have hq : m1 = (bld F 0 (ts.take i) ++ F i).length := hm1
            have hz5 := hb5.size
            have hsl : (F i).length ≤ 9 := sep_len HF.out i
            have LD := (tok_ld ol2 rfl i hits).load
            have OB : Hid (OwB w5 w.heap.size (.slice a1 m1 c1) (bld F 0 (ts.take i) ++ F i)) := ob2
            have OI : Hid (OwI w5 w.heap.size (.slice a2 m2 c2) (plc F 0 0 (ts.take i) ++ [(bld F 0 (ts.take i) ++ F i).length])) := by rw [← hq]; exact oi2
            have OL : Hid (w5.ownsRow w.heap.size 29 4 (.slice (some ⟨g, 0, none⟩) ts.length c) ts.length (tokC ts)) := ol2
            have HM2 : Hid (m2 = i + 1) := by rw [hm2, List.length_append, plc_len, List.length_take]; show min i ts.length + 1 = i + 1; omega
            have HB5 : Hid (Below w.heap.size w w5) := hb5
            have HBL : Hid ((bld F 0 (ts.take i) ++ F i).length + (Go.Proofs.YtphogfomlmjeiaaDoor.wr ts[i]).length ≤ 1000000000 ∧ w.heap.size ≤ w5.heap.size) := ⟨by rw [List.length_append]; omega, hz5⟩
            clear hbt hbx ob2 oi2 ol2 hb5 hm2 hq hsl hwl hxt hbl HL hm1 ob1 op1 ol1 hb4
            generalize ts[i].tk = TT at *
            go_wp2_with (go_at_call 16; refine (WT.out _).mono ?_; rintro e w6 ⟨rfl, hb6⟩; obtain ⟨a7, m7, c7, w7, hr7, hm7, ob7, hg7⟩ := app_text (own_call OB.out hb6) (Go.Proofs.YtphogfomlmjeiaaDoor.wr ts[i]) HBL.out.1 (Nat.le_trans HBL.out.2 hb6.size); have HM7 : Hid (m7 = ((bld F 0 (ts.take i) ++ F i) ++ Go.Proofs.YtphogfomlmjeiaaDoor.wr ts[i]).length) := hm7; clear hm7)
            go_roundg g'
            case measure => omega
            case rel =>
              refine ⟨i + 1, m7, m2, c7, c2, a7, a2, rfl, rfl, by simp, by omega, ⟨?_, HM2.out⟩, Bt.next (w := w7) (w2 := w7) (w3 := w7) (v9 := .slice a7 m7 c7) (v10 := .slice a7 m7 c7) hits ob7 (own_apart (own_call OI.out hb6) (own_call OB.out hb6) (by decide) hg7) (own_apart (own_call OL.out hb6) (own_call OB.out hb6) (by decide) hg7), ?_⟩
              · have e : ts.take (i + 1) = ts.take i ++ [ts[i]] := (List.take_succ_eq_append_getElem hits)
                have hl : (ts.take i).length = i := by rw [List.length_take]; omega
                rw [HM7.out, e, bld_snoc, hl, Nat.zero_add, ← List.append_assoc]
              · exact grow_below0 (Below.call HB5.out hb6 (Nat.le_refl _)) (own_call OB.out hb6) hg7
          · have hcond : i ≤ len ∧ f (i - 1) = true := ⟨hle, hfi⟩
            rw [hfi] at cR
            have hFi : F i = rmk := by rw [HFd.out, if_neg (by omega), if_pos hcond]
            obtain ⟨a1, m1, c1, w4, hr1, hm1, ob1, hg1⟩ := app_text hbt.text rmk (by rw [show rmk.length = 9 from rfl]; omega) (by omega)
            have hr1 : (appU #[39, 9] 39 #[.slice a9 n9 c9, .string { data := #[40, 42, 40, 42, 42, 41, 34, 42, 41] }]).run Tryd.prog wr = .ok (.slice a1 m1 c1) w4 := hr1
            have op1 := own_apart hbt.plcs hbt.text (by decide) hg1
            have ol1 := own_apart hbt.toks hbt.text (by decide) hg1
            have hb4 := grow_below0 hbx hbt.text hg1
            rw [← hFi] at hm1 ob1
            have hz4 := hb4.size
            obtain ⟨a2, m2, c2, w5, hr2, hm2, oi2, hg2⟩ := app_place op1 m1 (by rw [plc_len, List.length_take]; omega) (by omega)
            have ob2 : OwB w5 w.heap.size (.slice a1 m1 c1) (bld F 0 (ts.take i) ++ F i) := grow_apart ob1 op1 (by decide) hg2
            have ol2 := grow_apart ol1 op1 (by decide) hg2
            have hb5 := grow_below hb4 op1 hg2
            have hq : m1 = (bld F 0 (ts.take i) ++ F i).length := hm1
            have hz5 := hb5.size
            have hsl : (F i).length ≤ 9 := sep_len HF.out i
            have LD := (tok_ld ol2 rfl i hits).load
            have OB : Hid (OwB w5 w.heap.size (.slice a1 m1 c1) (bld F 0 (ts.take i) ++ F i)) := ob2
            have OI : Hid (OwI w5 w.heap.size (.slice a2 m2 c2) (plc F 0 0 (ts.take i) ++ [(bld F 0 (ts.take i) ++ F i).length])) := by rw [← hq]; exact oi2
            have OL : Hid (w5.ownsRow w.heap.size 29 4 (.slice (some ⟨g, 0, none⟩) ts.length c) ts.length (tokC ts)) := ol2
            have HM2 : Hid (m2 = i + 1) := by rw [hm2, List.length_append, plc_len, List.length_take]; show min i ts.length + 1 = i + 1; omega
            have HB5 : Hid (Below w.heap.size w w5) := hb5
            have HBL : Hid ((bld F 0 (ts.take i) ++ F i).length + (Go.Proofs.YtphogfomlmjeiaaDoor.wr ts[i]).length ≤ 1000000000 ∧ w.heap.size ≤ w5.heap.size) := ⟨by rw [List.length_append]; omega, hz5⟩
            clear hbt hbx ob2 oi2 ol2 hb5 hm2 hq hsl hwl hxt hbl HL hm1 ob1 op1 ol1 hb4
            generalize ts[i].tk = TT at *
            go_wp2_with (go_at_call 16; refine (WT.out _).mono ?_; rintro e w6 ⟨rfl, hb6⟩; obtain ⟨a7, m7, c7, w7, hr7, hm7, ob7, hg7⟩ := app_text (own_call OB.out hb6) (Go.Proofs.YtphogfomlmjeiaaDoor.wr ts[i]) HBL.out.1 (Nat.le_trans HBL.out.2 hb6.size); have HM7 : Hid (m7 = ((bld F 0 (ts.take i) ++ F i) ++ Go.Proofs.YtphogfomlmjeiaaDoor.wr ts[i]).length) := hm7; clear hm7)
            go_roundg g'
            case measure => omega
            case rel =>
              refine ⟨i + 1, m7, m2, c7, c2, a7, a2, rfl, rfl, by simp, by omega, ⟨?_, HM2.out⟩, Bt.next (w := w7) (w2 := w7) (w3 := w7) (v9 := .slice a7 m7 c7) (v10 := .slice a7 m7 c7) hits ob7 (own_apart (own_call OI.out hb6) (own_call OB.out hb6) (by decide) hg7) (own_apart (own_call OL.out hb6) (own_call OB.out hb6) (by decide) hg7), ?_⟩
              · have e : ts.take (i + 1) = ts.take i ++ [ts[i]] := (List.take_succ_eq_append_getElem hits)
                have hl : (ts.take i).length = i := by rw [List.length_take]; omega
                rw [HM7.out, e, bld_snoc, hl, Nat.zero_add, ← List.append_assoc]
              · exact grow_below0 (Below.call HB5.out hb6 (Nat.le_refl _)) (own_call OB.out hb6) hg7
        · have k1 : decide ((i : Int) ≤ (len : Int)) = false := decide_eq_false (by omega)
          have hcond : ¬ (i ≤ len ∧ f (i - 1) = true) := fun h => hle h.1
          have hFi : F i = [32] := by rw [HFd.out, if_neg (by omega), if_neg hcond]
          obtain ⟨a1, m1, c1, w4, hr1, hm1, ob1, hg1⟩ := app_blank hbt.text (by omega) (by omega)
          have op1 := grow_apart hbt.plcs hbt.text (by decide) hg1
          have ol1 := grow_apart hbt.toks hbt.text (by decide) hg1
          have hb4 := grow_below hbx hbt.text hg1
          rw [← hFi] at hm1 ob1
          have hz4 := hb4.size
          obtain ⟨a2, m2, c2, w5, hr2, hm2, oi2, hg2⟩ := app_place op1 m1 (by rw [plc_len, List.length_take]; omega) (by omega)
          have ob2 : OwB w5 w.heap.size (.slice a1 m1 c1) (bld F 0 (ts.take i) ++ F i) := grow_apart ob1 op1 (by decide) hg2
          have ol2 := grow_apart ol1 op1 (by decide) hg2
          have hb5 := grow_below hb4 op1 hg2
          have hq : m1 = (bld F 0 (ts.take i) ++ F i).length := hm1
          have hz5 := hb5.size
          have hsl : (F i).length ≤ 9 := sep_len HF.out i
          have LD := (tok_ld ol2 rfl i hits).load
          have OB : Hid (OwB w5 w.heap.size (.slice a1 m1 c1) (bld F 0 (ts.take i) ++ F i)) := ob2
          have OI : Hid (OwI w5 w.heap.size (.slice a2 m2 c2) (plc F 0 0 (ts.take i) ++ [(bld F 0 (ts.take i) ++ F i).length])) := by rw [← hq]; exact oi2
          have OL : Hid (w5.ownsRow w.heap.size 29 4 (.slice (some ⟨g, 0, none⟩) ts.length c) ts.length (tokC ts)) := ol2
          have HM2 : Hid (m2 = i + 1) := by rw [hm2, List.length_append, plc_len, List.length_take]; show min i ts.length + 1 = i + 1; omega
          have HB5 : Hid (Below w.heap.size w w5) := hb5
          have HBL : Hid ((bld F 0 (ts.take i) ++ F i).length + (Go.Proofs.YtphogfomlmjeiaaDoor.wr ts[i]).length ≤ 1000000000 ∧ w.heap.size ≤ w5.heap.size) := ⟨by rw [List.length_append]; omega, hz5⟩
          clear hbt hbx ob2 oi2 ol2 hb5 hm2 hq hsl hwl hxt hbl HL hm1 ob1 op1 ol1 hb4
          generalize ts[i].tk = TT at *
          go_wp2_with (go_at_call 16; refine (WT.out _).mono ?_; rintro e w6 ⟨rfl, hb6⟩; obtain ⟨a7, m7, c7, w7, hr7, hm7, ob7, hg7⟩ := app_text (own_call OB.out hb6) (Go.Proofs.YtphogfomlmjeiaaDoor.wr ts[i]) HBL.out.1 (Nat.le_trans HBL.out.2 hb6.size); have HM7 : Hid (m7 = ((bld F 0 (ts.take i) ++ F i) ++ Go.Proofs.YtphogfomlmjeiaaDoor.wr ts[i]).length) := hm7; clear hm7)
          go_roundg g'
          case measure => omega
          case rel =>
            refine ⟨i + 1, m7, m2, c7, c2, a7, a2, rfl, rfl, by simp, by omega, ⟨?_, HM2.out⟩, Bt.next (w := w7) (w2 := w7) (w3 := w7) (v9 := .slice a7 m7 c7) (v10 := .slice a7 m7 c7) hits ob7 (own_apart (own_call OI.out hb6) (own_call OB.out hb6) (by decide) hg7) (own_apart (own_call OL.out hb6) (own_call OB.out hb6) (by decide) hg7), ?_⟩
            · have e : ts.take (i + 1) = ts.take i ++ [ts[i]] := (List.take_succ_eq_append_getElem hits)
              have hl : (ts.take i).length = i := by rw [List.length_take]; omega
              rw [HM7.out, e, bld_snoc, hl, Nat.zero_add, ← List.append_assoc]
            · exact grow_below0 (Below.call HB5.out hb6 (Nat.le_refl _)) (own_call OB.out hb6) hg7
    · have d0 : decide ((i : Int) < (ts.length : Int)) = false := decide_eq_false (by omega)
      have hin : i = ts.length := by omega
      have htk : ts.take i = ts := List.take_of_length_le (by omega)
      obtain ⟨hbT, hbP, hbL⟩ := hbt
      rw [htk] at hbT hbP
      have hL := HL.out
      rw [htk] at hL
      have CV := conv_text hbT
      have hps : (plc F 0 0 ts).length = ts.length := plc_len _ _ _ _
      have hn0 : 0 < ts.length := List.length_pos_iff.2 hne
      obtain ⟨g10, c10', he10, hdum⟩ := own_ints hbP 0 (by omega)
      clear hdum
      have ha10 : a10 = some ⟨g10, 0, none⟩ := by injection he10
      subst ha10
      have hn10 : n10 = ts.length := by omega
      subst hn10
      have d0' : decide ((ts.length : Int) < (ts.length : Int)) = false := decide_eq_false (by omega)
      have hn9 := hL.1
      have VR : Vars wr := HV.out.below hbx HV.out.big2
      by_cases hbig : 16384 < n9
      · have k1 : decide ((16384 : Int) < (n9 : Int)) = true := decide_eq_true (by omega)
        clear hbT hbP hbL CV hL hn9 htk
        go_wp2
        go_ret
        exact ⟨rfl, hbx⟩
      · have k1 : decide ((16384 : Int) < (n9 : Int)) = false := decide_eq_false (by omega)
        have hZ := RE.out (by omega)
        have AR : Hid (∀ X, Vars X → Calls Tryd.prog 8 #[.string (bs (bld F 0 ts))] X fun e w' => ∃ g3 c3, e = .returned (.tuple #[.slice (some ⟨g3, 0, none⟩) ts.length c3, .int .i64 0, .int .i64 0]) ∧ (∀ j (hj : j < ts.length) (hj2 : j < (plc F 0 0 ts).length), TkAt w' g3 (j * 4) ⟨ts[j].k, bs ts[j].t, ts[j].n, ((plc F 0 0 ts)[j] : Int)⟩) ∧ Below X.heap.size X w') := fun X VX => by
          have hzl := zipT_len ts (plc F 0 0 ts) hps.symm
          refine (all_row _ _ hZ (fun e => by rw [e] at hzl; simp at hzl; omega) X VX).mono fun e w' ⟨g3, c3, he, _, _, _, ht, hb⟩ => ?_
          rw [hzl] at he
          refine ⟨g3, c3, he, fun j hj hj2 => ?_, hb⟩
          have t1 := ht j (by omega)
          rw [zipT_at ts _ j hj hj2 (by omega)] at t1
          exact t1
        have HP : Hid (OwI wr w.heap.size (.slice (some ⟨g10, 0, none⟩) ts.length c10) (plc F 0 0 ts)) := hbP
        have HLk : Hid (wr.ownsRow w.heap.size 29 4 (.slice (some ⟨g, 0, none⟩) ts.length c) ts.length (tokC ts)) := hbL
        clear hbT hbP hbL hL hn9 htk hZ RE HL he10
        generalize bs (bld F 0 ts) = src2 at *
        have kn : ((ts.length : Int) != (ts.length : Int)) = false := by simp
        go_wp2_with (go_at_call 8; refine (AR.out _ VR).mono ?_; rintro e w3 ⟨g3, c3, rfl, t3, hb3⟩)
        have P3 : Hid (OwI w3 w.heap.size (.slice (some ⟨g10, 0, none⟩) ts.length c10) (plc F 0 0 ts)) := own_call HP.out hb3
        have L3 : Hid (w3.ownsRow w.heap.size 29 4 (.slice (some ⟨g, 0, none⟩) ts.length c) ts.length (tokC ts)) := own_call HLk.out hb3
        have T3 : Hid (∀ j (hj : j < ts.length) (hj2 : j < (plc F 0 0 ts).length), TkAt w3 g3 (j * 4) ⟨ts[j].k, bs ts[j].t, ts[j].n, ((plc F 0 0 ts)[j] : Int)⟩) := t3
        have hB3 : Below w.heap.size w w3 := Below.call hbx hb3 (Nat.le_refl _)
        have HPS : Hid ((plc F 0 0 ts).length = ts.length) := hps
        clear t3 HP HLk AR CV hps hb3 VR
        go_loopg [4, 15] ts.length (fun gf s4 s15 wx => ∃ j m : Nat, s4 = .bool false ∧ s15 = .int .i64 (j : Int) ∧ j + gf = ts.length ∧ wx = w3.drewN m)
        case atStart => exact ⟨0, 0, rfl, rfl, by omega, by rw [World.drewN_zero]⟩
        case round =>
          obtain ⟨j, m, rfl, rfl, hj, hww⟩ := hrel
          subst hww
          by_cases hjl : j < ts.length
          · obtain ⟨g', rfl⟩ : ∃ g', gk = g' + 1 := ⟨gk - 1, by omega⟩
            have e0 : decide ((j : Int) < (ts.length : Int)) = true := decide_eq_true (by omega)
            have hjt : j < ts.length := hjl
            obtain ⟨kd0, kd1, kd2, kd3⟩ := (T3.out j hjt (by have := HPS.out; omega)).cells
            obtain ⟨ld0, ld1, ld2, ld3⟩ := (tok_ld L3.out rfl j hjt).cells
            obtain ⟨g10', c10'', he, pc⟩ := own_ints P3.out j (by have := HPS.out; omega)
            have hg10 : g10' = g10 := by simp only [Value.slice.injEq, Option.some.injEq, Addr.mk.injEq] at he; exact he.1.1.symm
            subst hg10
            have kc0 : w3.cell? ⟨g3, j * 4, none⟩ = some (.int .i64 ts[j].k) := kd0
            have kc1 : w3.cell? ⟨g3, j * 4 + 1, none⟩ = some (.string (bs ts[j].t)) := kd1
            have kc2 : w3.cell? ⟨g3, j * 4 + 2, none⟩ = some (.int .i64 ts[j].n) := kd2
            have lc0 : w3.cell? ⟨g, j * 4, none⟩ = some (.int .i64 ts[j].k) := ld0
            have lc1 : w3.cell? ⟨g, j * 4 + 1, none⟩ = some (.string (bs ts[j].t)) := ld1
            have lc2 : w3.cell? ⟨g, j * 4 + 2, none⟩ = some (.int .i64 ts[j].n) := ld2
            have kc3 : w3.cell? ⟨g3, j * 4 + 3, none⟩ = some (.int .i64 (((plc F 0 0 ts)[j]'(by have := HPS.out; omega) : Nat) : Int)) := kd3
            generalize (plc F 0 0 ts)[j]'(by have := HPS.out; omega) = Q at kc3 pc
            generalize ts[j].k = KK at kc0 lc0
            generalize bs ts[j].t = TT at kc1 lc1
            generalize ts[j].n = NN at kc2 lc2
            clear kd0 kd1 kd2 kd3 ld0 ld1 ld2 ld3 he T3 L3 P3
            have b1 : (0 : Int) ≤ (j : Int) := by omega
            have b2 : (j : Int) < (ts.length : Int) := by omega
            have r1 : (KK != KK) = false := by simp
            have r2 : (NN != NN) = false := by simp
            have r3 : ((Q : Int) != (Q : Int)) = false := by simp
            have r4 : (TT.toList != TT.toList) = false := by simp
            go_wp2
            go_region
            go_wp2
            go_roundg g'
            case measure => omega
            case rel => exact ⟨j + 1, m + 1, rfl, by simp, by omega, rfl⟩
          · have e0 : decide ((j : Int) < (ts.length : Int)) = false := decide_eq_false (by omega)
            go_wp2
            go_ret
            exact ⟨rfl, bdrewN hB3 _⟩
theorem again_any (s : ByteArray) (a : Option Addr) (len cap : Nat) (f : Nat → Bool) (w : World) (V : Vars w) (hs : s.size ≤ maxLen) (hR : RdBo w a len f) : Calls Tryd.prog 6 #[.string s, .slice a len cap] w fun e w' => e = .returned (.bool true) ∧ Below w.heap.size w w' := by
  rw [← bs_of s]
  generalize s.data.toList = l
  rcases allP_cases l with ⟨P, x, hA, hx⟩ | ⟨d, hA, hd, _, _⟩
  · exact again_bad l a len cap P x hA hx w V
  · have hl : l.length ≤ 16384 := by
      rcases Nat.lt_or_ge 16384 l.length with h | h
      · unfold allP at hA; rw [if_pos h] at hA; cases hA
      · exact h
    rw [allP_goX l hl] at hA
    obtain ⟨d', q, h1, h2⟩ := toks_ok l.length 0 l (Nat.le_refl _) hl (by rw [hA])
    refine again_fine l a len cap f d' q ?_ h2 w V hR
    rw [allP_goX l hl, hA]
    rw [hA] at h1
    simp only at h1
    rw [h1]
end Go.Proofs.YtphogfomlmjeiaaDoor
