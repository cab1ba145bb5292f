/-
  Layer 13, the document's side: procedures.
-/
import Derived.Test.YtcppgpcgbggdcaaDoorYdc
namespace Go.Proofs.YtcppgpcgbggdcaaDoor
set_option linter.unusedVariables false
set_option linter.unusedSimpArgs false
open Go.ChangeShapes Go.WideShapes Go.ChangeAt Go.RowKit
attribute [local go_sem ↓] ldC_seal stC_seal ldV_seal stV_seal ldP_seal stP_seal

/-- A parameter, copied into a box. -/
theorem box_par {w X : World} {s : Sl} {xs : List Vr} (h : RdV w 5 s xs.length (flat vEnc xs)) (hb : Below w.heap.size w X) (i : Nat) (hi : i < xs.length) : ∃ b off Z, s.a = some ⟨b, off, none⟩ ∧ (ldT 69 ⟨b, off + i * 5, none⟩).run Tryd.prog X = .ok (.agg (vEnc xs[i])) X ∧ (stT 69 ⟨X.heap.size, 0, none⟩ (.agg (vEnc xs[i]))).run Tryd.prog (X.alloc (.cells zeroV 69)) = .ok () Z ∧ Hid (BA Z X.heap.size 69 (vEnc xs[i]) ∧ Below X.heap.size X Z) := by
  obtain ⟨b, off, e1, _, e2⟩ := (h.below hb).elem (fun _ => rfl) i hi
  obtain ⟨Z, z1, z2, z3⟩ := stT_run (w := X.alloc (.cells zeroV 69)) (vEnc xs[i]) (BA.new X _ zeroV) rfl (by kernel_rfl) (by simp [vEnc, Value.oneCell'])
  exact ⟨b, off, Z, e1, ldT_mid e2 Tryd.underlying69 rfl (by kernel_rfl), z1, z2, ((Below.refl _ _).alloc (Nat.le_refl _) _).trans (z3.bel (by simp) (Nat.le_refl _))⟩
theorem par_no {xs : List Vr} {i : Nat} (hi : i < xs.length) (h : parB xs[i] = false) : xs.all parB = false := by
  rw [List.all_eq_false]
  exact ⟨xs[i], List.getElem_mem hi, by rw [h]; simp⟩
theorem par_all {xs : List Vr} (h : ∀ k (hk : k < xs.length), parB xs[k] = true) : xs.all parB = true := by
  rw [List.all_eq_true]
  intro x hx
  obtain ⟨k, hk, rfl⟩ := List.getElem_of_mem hx
  exact h k hk
set_option maxHeartbeats 8000000 in
set_option maxRecDepth 20000 in
theorem rproc_any (p : Pc × Sl) (w : World) (hr : RdV w 5 p.2 p.1.ps.length (flat vEnc p.1.ps)) : Calls Tryd.prog 39 #[.agg (pEnc p)] w fun e w' => e = .returned (.bool (prcD p.1)) ∧ Below w.heap.size w w' := by
  have b0 := BA.new w 63 (pEnc p)
  have bw : Below w.heap.size w (w.alloc (.cells (pEnc p) 63)) := (Below.refl _ _).alloc (Nat.le_refl _) _
  have PL : Hid (∀ x X, Calls Tryd.prog 37 #[.int .i64 x] X fun e w' => e = .returned (.bool (plainB x)) ∧ w' = X) := hid_of rPlain_any
  have hn := hr.len
  have hmo := hr.most
  have EV : Hid (∀ X, Below w.heap.size w X → ∀ i (hi : i < p.1.ps.length), ∃ b off Z, p.2.a = some ⟨b, off, none⟩ ∧ (ldT 69 ⟨b, off + i * 5, none⟩).run Tryd.prog X = .ok (.agg (vEnc p.1.ps[i])) X ∧ (stT 69 ⟨X.heap.size, 0, none⟩ (.agg (vEnc p.1.ps[i]))).run Tryd.prog (X.alloc (.cells zeroV 69)) = .ok () Z ∧ Hid (BA Z X.heap.size 69 (vEnc p.1.ps[i]) ∧ Below X.heap.size X Z)) := hid_of fun X hX i hi => box_par hr hX i hi
  obtain ⟨⟨nm, ps, rs⟩, s⟩ := p
  obtain ⟨q, sn, sc⟩ := s
  dsimp only at *
  subst hn
  obtain ⟨r, hR⟩ : ∃ r, r = prcD ⟨nm, ps, rs⟩ := ⟨_, rfl⟩
  rw [← hR]
  unfold prcD at hR
  dsimp only at hR
  have c1 : (w.alloc (.cells (pEnc (⟨nm, ps, rs⟩, ⟨q, ps.length, sc⟩)) 63)).cell? ⟨w.heap.size, 1, none⟩ = some (.slice q ps.length sc) := b0.cell 1
  have c2 : (w.alloc (.cells (pEnc (⟨nm, ps, rs⟩, ⟨q, ps.length, sc⟩)) 63)).cell? ⟨w.heap.size, 2, none⟩ = some (.int .i64 rs) := b0.cell 2
  have HB := hid_of (And.intro b0 bw)
  clear b0 bw hr
  obtain ⟨n, hn⟩ : ∃ n, n = ps.length := ⟨_, rfl⟩
  have HN := hid_of hn
  rw [← hn] at hmo c1 c2 HB hR ⊢
  clear hn
  by_cases h8 : n ≤ 8
  · have d8 : decide ((8 : Int) < (n : Int)) = false := decide_eq_false (by omega)
    have hres : (rs != 0) = false ∨ (rs != 0) = true ∧ plainB rs = true ∨ (rs != 0) = true ∧ plainB rs = false := by
      by_cases h0 : rs = 0
      · left; simpa using h0
      · right
        cases hp : plainB rs
        · exact .inr ⟨by simpa using h0, rfl⟩
        · exact .inl ⟨by simpa using h0, rfl⟩
    have hrb : resB rs = (!((rs != 0) && !(plainB rs))) := by
      unfold resB
      by_cases h0 : rs = 0
      · simp [h0]
      · have e1 : decide (rs = 0) = false := decide_eq_false h0
        have e2 : (rs != 0) = true := by simpa using h0
        rw [e1, e2]; simp
    have R1 : Hid (r = (ps.all parB && !((rs != 0) && !(plainB rs)))) := hid_of (by rw [hR, decide_eq_true (show ((n : Nat) : Int) ≤ 8 by omega), Bool.true_and, hrb])
    have NX : Hid (∀ i (hi : i < ps.length), parB ps[i] = false → r = false) := hid_of fun i hi h => by rw [R1.out, par_no hi h, Bool.false_and]
    clear hR hrb
    unfold pEnc at *
    dsimp only at *
    rcases hres with n1 | ⟨n1, n2⟩ | ⟨n1, n2⟩
    · have RY : Hid ((∀ k (hk : k < ps.length), parB ps[k] = true) → r = true) := hid_of fun h => by rw [R1.out, par_all h, n1]; rfl
      clear R1
      go_enter Tryd.func39, Tryd.ntmps39
      go_wp2
      go_loopg [3, 4, 5] n (fun gf t3 t4 t5 wx => ∃ i : Nat, t3 = .int .i64 (i : Int) ∧ i + gf = n ∧ Hid (BA wx w.heap.size 63 #[.string nm, .slice q n sc, .int .i64 rs] ∧ Below w.heap.size w wx) ∧ Hid (∀ k (hk : k < ps.length), k < i → parB ps[k] = true))
      case atStart => exact ⟨0, rfl, by omega, HB.out, hid_of fun k hk h => by omega⟩
      case round =>
        obtain ⟨i, rfl, hi, HX, HP⟩ := hrel
        have q1 : wr.cell? ⟨w.heap.size, 1, none⟩ = some (.slice q n sc) := HX.out.1.cell 1
        by_cases hlt : i < n
        · obtain ⟨g', rfl⟩ : ∃ g', gk = g' + 1 := ⟨gk - 1, by omega⟩
          have d1 : decide ((i : Int) < (n : Int)) = true := decide_eq_true (by omega)
          have j0 : (0 : Int) ≤ (i : Int) := by omega
          have j1 : (i : Int) < (n : Int) := by omega
          have hil : i < ps.length := by rw [← HN.out]; exact hlt
          obtain ⟨b, off, Z, rfl, k0, k1, HZ⟩ := EV.out wr HX.out.2 i hil
          have NI : Hid (parB ps[i] = false → r = false) := hid_of fun h => NX.out i hil h
          have HP2 : Hid (parB ps[i] = true → ∀ k (hk : k < ps.length), k < i + 1 → parB ps[k] = true) := hid_of fun h k hk hki => by
            rcases Nat.lt_or_ge k i with z | z
            · exact HP.out k hk z
            · obtain rfl : k = i := by omega
              exact h
          generalize ps[i] = y at k0 k1 HZ NI HP2
          have c0 : Z.cell? ⟨wr.heap.size, 0, none⟩ = some (.string y.nm) := HZ.out.1.cell 0
          have c1' : Z.cell? ⟨wr.heap.size, 1, none⟩ = some (.int .i64 y.fm) := HZ.out.1.cell 1
          have c2' : Z.cell? ⟨wr.heap.size, 2, none⟩ = some (.int .i64 y.ln) := HZ.out.1.cell 2
          have HI2 : Hid (BA Z w.heap.size 63 #[.string nm, .slice (some ⟨b, off, none⟩) n sc, .int .i64 rs] ∧ Below w.heap.size w Z) := hid_of ⟨HX.out.1.below HZ.out.2, HX.out.2.trans (HZ.out.2.mono HX.out.2.size)⟩
          clear HZ HX HP NX c1 c2 hil HB
          unfold vEnc zeroV at *
          obtain ⟨ynm, yfm, yln, yop, yrf⟩ := y
          dsimp only at *
          cases hpl : plainB yfm
          · have RF := NI.out (by unfold parB; simp only [hpl, Bool.false_and])
            have RF := hid_of RF
            clear NI HP2
            go_wp2_with (go_at_call 37; refine (PL.out _ _).mono ?_; rintro e w1 ⟨rfl, hw⟩; rw [hw, hpl]; clear hw)
            go_ret
            exact ⟨ret_bool RF.out.symm, HI2.out.2⟩
          · cases hem : ynm.toList.isEmpty
            · have RF := NI.out (by unfold parB; simp only [hem, Bool.and_false])
              have RF := hid_of RF
              clear NI HP2
              go_wp2_with (go_at_call 37; refine (PL.out _ _).mono ?_; rintro e w1 ⟨rfl, hw⟩; rw [hw, hpl]; clear hw)
              go_ret
              exact ⟨ret_bool RF.out.symm, HI2.out.2⟩
            · cases hln : (yln != 0)
              · have hz : yln = 0 := by simpa using hln
                have HP3 := hid_of (HP2.out (by unfold parB; simp only [hpl, hem, hz]; rfl))
                clear NI HP2 hz
                go_wp2_with (go_at_call 37; refine (PL.out _ _).mono ?_; rintro e w1 ⟨rfl, hw⟩; rw [hw, hpl]; clear hw)
                go_roundg g'
                case measure => omega
                case rel => exact ⟨i + 1, by simp, by omega, HI2.out, HP3.out⟩
              · have hz : ¬ yln = 0 := by simpa using hln
                have RF := hid_of (NI.out (by unfold parB; simp only [decide_eq_false hz, Bool.false_and, Bool.and_false]))
                clear NI HP2 hz
                go_wp2_with (go_at_call 37; refine (PL.out _ _).mono ?_; rintro e w1 ⟨rfl, hw⟩; rw [hw, hpl]; clear hw)
                go_ret
                exact ⟨ret_bool RF.out.symm, HI2.out.2⟩
        · have d1 : decide ((i : Int) < (n : Int)) = false := decide_eq_false (by omega)
          have RT := hid_of (RY.out fun k hk => HP.out k hk (by rw [← HN.out] at hk; omega))
          go_wp2
          go_ret
          exact ⟨ret_bool RT.out.symm, HX.out.2⟩
    · have RY : Hid ((∀ k (hk : k < ps.length), parB ps[k] = true) → r = true) := hid_of fun h => by rw [R1.out, par_all h, n1, n2]; rfl
      clear R1
      go_enter Tryd.func39, Tryd.ntmps39
      go_wp2_with (go_at_call 37; refine (PL.out _ _).mono ?_; rintro e w1 ⟨rfl, hw⟩; rw [hw, n2]; clear hw)
      go_loopg [3, 4, 5] n (fun gf t3 t4 t5 wx => ∃ i : Nat, t3 = .int .i64 (i : Int) ∧ i + gf = n ∧ Hid (BA wx w.heap.size 63 #[.string nm, .slice q n sc, .int .i64 rs] ∧ Below w.heap.size w wx) ∧ Hid (∀ k (hk : k < ps.length), k < i → parB ps[k] = true))
      case atStart => exact ⟨0, rfl, by omega, HB.out, hid_of fun k hk h => by omega⟩
      case round =>
        obtain ⟨i, rfl, hi, HX, HP⟩ := hrel
        have q1 : wr.cell? ⟨w.heap.size, 1, none⟩ = some (.slice q n sc) := HX.out.1.cell 1
        by_cases hlt : i < n
        · obtain ⟨g', rfl⟩ : ∃ g', gk = g' + 1 := ⟨gk - 1, by omega⟩
          have d1 : decide ((i : Int) < (n : Int)) = true := decide_eq_true (by omega)
          have j0 : (0 : Int) ≤ (i : Int) := by omega
          have j1 : (i : Int) < (n : Int) := by omega
          have hil : i < ps.length := by rw [← HN.out]; exact hlt
          obtain ⟨b, off, Z, rfl, k0, k1, HZ⟩ := EV.out wr HX.out.2 i hil
          have NI : Hid (parB ps[i] = false → r = false) := hid_of fun h => NX.out i hil h
          have HP2 : Hid (parB ps[i] = true → ∀ k (hk : k < ps.length), k < i + 1 → parB ps[k] = true) := hid_of fun h k hk hki => by
            rcases Nat.lt_or_ge k i with z | z
            · exact HP.out k hk z
            · obtain rfl : k = i := by omega
              exact h
          generalize ps[i] = y at k0 k1 HZ NI HP2
          have c0 : Z.cell? ⟨wr.heap.size, 0, none⟩ = some (.string y.nm) := HZ.out.1.cell 0
          have c1' : Z.cell? ⟨wr.heap.size, 1, none⟩ = some (.int .i64 y.fm) := HZ.out.1.cell 1
          have c2' : Z.cell? ⟨wr.heap.size, 2, none⟩ = some (.int .i64 y.ln) := HZ.out.1.cell 2
          have HI2 : Hid (BA Z w.heap.size 63 #[.string nm, .slice (some ⟨b, off, none⟩) n sc, .int .i64 rs] ∧ Below w.heap.size w Z) := hid_of ⟨HX.out.1.below HZ.out.2, HX.out.2.trans (HZ.out.2.mono HX.out.2.size)⟩
          clear HZ HX HP NX c1 c2 hil HB
          unfold vEnc zeroV at *
          obtain ⟨ynm, yfm, yln, yop, yrf⟩ := y
          dsimp only at *
          cases hpl : plainB yfm
          · have RF := NI.out (by unfold parB; simp only [hpl, Bool.false_and])
            have RF := hid_of RF
            clear NI HP2
            go_wp2_with (go_at_call 37; refine (PL.out _ _).mono ?_; rintro e w1 ⟨rfl, hw⟩; rw [hw, hpl]; clear hw)
            go_ret
            exact ⟨ret_bool RF.out.symm, HI2.out.2⟩
          · cases hem : ynm.toList.isEmpty
            · have RF := NI.out (by unfold parB; simp only [hem, Bool.and_false])
              have RF := hid_of RF
              clear NI HP2
              go_wp2_with (go_at_call 37; refine (PL.out _ _).mono ?_; rintro e w1 ⟨rfl, hw⟩; rw [hw, hpl]; clear hw)
              go_ret
              exact ⟨ret_bool RF.out.symm, HI2.out.2⟩
            · cases hln : (yln != 0)
              · have hz : yln = 0 := by simpa using hln
                have HP3 := hid_of (HP2.out (by unfold parB; simp only [hpl, hem, hz]; rfl))
                clear NI HP2 hz
                go_wp2_with (go_at_call 37; refine (PL.out _ _).mono ?_; rintro e w1 ⟨rfl, hw⟩; rw [hw, hpl]; clear hw)
                go_roundg g'
                case measure => omega
                case rel => exact ⟨i + 1, by simp, by omega, HI2.out, HP3.out⟩
              · have hz : ¬ yln = 0 := by simpa using hln
                have RF := hid_of (NI.out (by unfold parB; simp only [decide_eq_false hz, Bool.false_and, Bool.and_false]))
                clear NI HP2 hz
                go_wp2_with (go_at_call 37; refine (PL.out _ _).mono ?_; rintro e w1 ⟨rfl, hw⟩; rw [hw, hpl]; clear hw)
                go_ret
                exact ⟨ret_bool RF.out.symm, HI2.out.2⟩
        · have d1 : decide ((i : Int) < (n : Int)) = false := decide_eq_false (by omega)
          have RT := hid_of (RY.out fun k hk => HP.out k hk (by rw [← HN.out] at hk; omega))
          go_wp2
          go_ret
          exact ⟨ret_bool RT.out.symm, HX.out.2⟩
    · have RF : Hid (r = false) := hid_of (by rw [R1.out, n1, n2]; simp)
      clear R1 NX EV
      go_enter Tryd.func39, Tryd.ntmps39
      go_wp2_with (go_at_call 37; refine (PL.out _ _).mono ?_; rintro e w1 ⟨rfl, hw⟩; rw [hw, n2]; clear hw)
      go_ret
      exact ⟨ret_bool RF.out.symm, HB.out.2⟩
  · have d8 : decide ((8 : Int) < (n : Int)) = true := decide_eq_true (by omega)
    have RF : Hid (r = false) := hid_of (by rw [hR, decide_eq_false (show ¬ ((n : Nat) : Int) ≤ 8 by omega)]; simp)
    clear hR EV PL
    unfold pEnc at *
    dsimp only at *
    go_enter Tryd.func39, Tryd.ntmps39
    go_wp2
    go_ret
    exact ⟨ret_bool RF.out.symm, HB.out.2⟩
end Go.Proofs.YtcppgpcgbggdcaaDoor
