/-
  The document's layer 6: an instruction of a form's operands: the walk.
-/
import Derived.Test.YtmldlkcgaepaaaaGreatDoorMD8
namespace Go.Proofs.YtmldlkcgaepaaaaGreatDoor
set_option linter.unusedVariables false
set_option linter.unusedSimpArgs false
open Go.ChangeShapes Go.WideShapes Go.ChangeAt Go.RowKit
attribute [local go_sem ↓] loadIn_seal storeIn_seal
attribute [local go_sem] loadIn_run storeIn_run rowAt_at rowAt_old rowAt_drew rowAt_drewN roomCpu_new roomIn_new roomAt_old roomAt_drew roomAt_drewN putCpu_new putIn_new Cp.zero_fold In.fold putRow_past rowCpu_put rowIn_put size_put putRow_drew putRow_drewN alloc_drewN setCell_drewN Cp.at16 Cp.at17 Cp.at18 Cp.at19 Cp.at20 Cp.at21 Cp.size Cp.set16 Cp.set17 Cp.set18 Cp.set19 Cp.set20 Cp.set21 In.at0 In.at1 In.at2 In.at3 In.at4 In.at5 In.at6 In.at7 In.size In.set0 In.set1 In.set2 In.set3 In.ne Cp.ne In.set4 In.set5 In.set6 In.set7
attribute [local go_sem] fmA_at0 fmA_at9 fmA_at10 fmA_size

/-- Beside an instruction, its form. -/
structure FAt (w X : World) (bx p q : Nat) (f : Fm) (i : In) : Prop extends IAt w X p q i where
  box : rowAt X bx = some (fmA f)
  nb : bx ≠ q ∧ w.heap.size ≤ bx
theorem FAt.set {w X : World} {bx p q : Nat} {f : Fm} {i i' : In} (h : FAt w X bx p q f i) (j : Nat) (v : Value) (hj : j < 8) (hi : i.cells.setIfInBounds j v = i'.cells) : FAt w (X.setCell ⟨q, j, none⟩ v) bx p q f i' :=
  { toIAt := h.toIAt.set j v hj hi, box := ((far_set (w := X) (b := q) (b' := bx) j v h.nb.1).1).trans h.box, nb := h.nb }
theorem In.set0' (c : In) (v : Int) : c.cells.setIfInBounds 0 (.int .i64 v) = ({ c with F := v } : In).cells := rfl
theorem In.set4' (c : In) (v : Int) : c.cells.setIfInBounds 4 (.int .i64 v) = ({ c with B := v } : In).cells := rfl
set_option maxHeartbeats 4000000 in
set_option maxRecDepth 20000 in
theorem rread_any (f : Fm) (hf : okFm f) (l : List Bs) (B : Nat) (v : Value) (w : World) (ho : w.ownsRow B 9 1 v l.length (strs l)) (hl : l.length ≤ 65537) (hs : ∀ x ∈ l, x.length ≤ 65536) :
    Calls Tryz.prog 31 #[.agg (fmA f), v] w fun e w' => ∃ i : In, e = .returned (.tuple #[.agg i.cells, .bool (readD f l).isSome]) ∧ (∀ j, readD f l = some j → i = j) ∧ Below w.heap.size w w' := by
  obtain ⟨sa, sc, rfl⟩ := own_sl9 ho
  have hm : ((manyF f : Nat) : Int) = (f.regs : Int) + (if f.last then 1 else 0) := by unfold manyF; split <;> simp
  have hregs : f.regs ≤ 2 := by rcases hf with ⟨h, _⟩ | ⟨h, _⟩ | ⟨h, _⟩ | ⟨h, _⟩ <;> omega
  have hrd := readD_eq f hf l
  have ld := fm_load (w := (w.alloc (.cells (fmA f) 65)).alloc (.cells ({ F := 0, U := false, V := false, A := 0, B := 0, O := 0, C := 0, N := 0 } : In).cells 52)) (b := w.heap.size) f (by simp [go_sem])
  have HO : Hid (w.ownsRow B 9 1 (.slice sa l.length sc) l.length (strs l)) := ho
  have HS : Hid (∀ x ∈ l, x.length ≤ 65536) := hs
  clear ho hs
  by_cases hlen : l.length = manyF f
  · rw [if_pos hlen] at hrd
    cases hL : f.last with
    | false =>
      have hmm : (l.length : Int) = (f.regs : Int) := by rw [hlen, hm, hL]; simp
      have HRD : Hid (readD f l = (regsI l f.regs f.i).bind fun i => some i) := by show _ = _; rw [hrd, hL]; rfl
      have hb : ((l.length : Int) != (f.regs : Int)) = false := by simp; omega
      have hl1 : l.length ≤ f.regs := by omega
      have hl2 : f.regs ≤ l.length := by omega
      clear hrd hm hmm hlen
      go_enter Tryz.func31, Tryz.ntmps31
      go_wp2
      go_loopw [8] (fun x wr => ∃ (k : Nat) (i : In), x = .int .i64 k ∧ k ≤ f.regs ∧ regsI l k f.i = some i ∧ FAt w wr w.heap.size (w.heap.size + 1) (w.heap.size + 1 + 1) f i) (fun x _ => f.regs - (intOf x).toNat)
      case atStart => exact ⟨0, f.i, rfl, by omega, rfl, { row := rowAt_at _ _ _ _ _ (by simp), room := roomIn_new _ _ _ _ (by simp), ans := (roomAt_old _ _ _ _ (by simp)).trans (roomIn_new _ _ _ _ (by simp)), ne := by omega, lo := by omega, bel := by go_grown, box := (rowAt_old _ _ _ (by simp; omega)).trans ((rowAt_old _ _ _ (by simp)).trans (rowAt_at _ _ _ _ _ rfl)), nb := by omega }⟩
      case round =>
        obtain ⟨k, i, rfl, hk, hri, A⟩ := hrel
        have b0 := rowAt_cell A.box
        have r0 := A.row
        have r1 := rowAt_cell A.row
        have r2 := row_free A.room
        have r3 := A.ans
        have HA : Hid (FAt w wr w.heap.size (w.heap.size + 1) (w.heap.size + 1 + 1) f i) := A
        clear A ld
        by_cases hlt : k < f.regs
        · have hd : decide ((k : Int) < (f.regs : Int)) = true := by simp; omega
          obtain ⟨g, c, e, hg1, hg2⟩ := own_some HO.out (by omega)
          injection e with e1 e2 e3
          subst e1 e3
          have hkl : k < l.length := by omega
          have hc1 : wr.cell? ⟨g, k, none⟩ = some (.string (bs l[k])) := (HA.out.bel.cell (p := ⟨g, k, none⟩) hg2).trans (strs_cell HO.out k hkl)
          have hlk := HS.out l[k] (List.getElem_mem hkl)
          have hgd : l.getD k [] = l[k] := by simp [List.getD, List.getElem?_eq_getElem hkl]
          have RG : Hid (∀ X, Calls Tryz.prog 53 #[.string (bs l[k])] X _) := fun X => rregister_any l[k] X (by omega)
          generalize l[k] = x at hc1 RG hgd
          cases hr : rgD x with
          | none =>
            have hnone : regsI l f.regs f.i = none := regsI_none l f.i (k := k + 1) (by omega) (by rw [regsI, hri, Option.bind_some, hgd, hr]; rfl)
            have HE : Hid (readD f l = none) := by show _ = none; rw [HRD.out, hnone]; rfl
            rw [hr] at RG
            generalize rgV x = rv at RG
            clear hri hnone hgd
            go_wp2_with (go_at_call 53; refine (RG.out _).mono ?_; rintro e w' ⟨rfl, hw⟩; obtain rfl := hw.symm; clear hw)
            exact ret_cell_tmp rfl rfl (loadIn_row (rowIn_put _ _ _ (by assumption))) rfl ⟨_, by rw [HE.out]; rfl, (fun j h => by rw [HE.out] at h; cases h), below_put HA.out.bel _ (by omega) _⟩
          | some n =>
            have hnext : regsI l (k + 1) f.i = some (stepR k n i) := by rw [regsI, hri, Option.bind_some, hgd, hr]; rfl
            rw [rgV_of hr, hr] at RG
            by_cases hk0 : k = 0
            · have hkb : ((k : Int) == 0) = true := by simp; omega
              have A' := HA.out.set 3 (.int .i64 n) (by omega) (In.set3' _ n)
              have HN : Hid (regsI l (k + 1) f.i = some { i with A := n } ∧ FAt w (wr.setCell ⟨w.heap.size + 1 + 1, 3, none⟩ (.int .i64 n)) w.heap.size (w.heap.size + 1) (w.heap.size + 1 + 1) f { i with A := n }) := ⟨by rw [hnext, stepR, if_pos hk0], A'⟩
              clear hnext A' hri hgd hk0
              go_wp2_with (go_at_call 53; refine (RG.out _).mono ?_; rintro e w' ⟨rfl, hw⟩; obtain rfl := hw.symm; clear hw)
              go_roundw
              case rel => exact ⟨k + 1, _, by go_num, by omega, HN.out.1, HN.out.2⟩
              case measure => simp [intOf]; omega
            · have hkb : ((k : Int) == 0) = false := by simp; omega
              have A' := HA.out.set 4 (.int .i64 n) (by omega) (In.set4' _ n)
              have HN : Hid (regsI l (k + 1) f.i = some { i with B := n } ∧ FAt w (wr.setCell ⟨w.heap.size + 1 + 1, 4, none⟩ (.int .i64 n)) w.heap.size (w.heap.size + 1) (w.heap.size + 1 + 1) f { i with B := n }) := ⟨by rw [hnext, stepR, if_neg hk0], A'⟩
              clear hnext A' hri hgd hk0
              go_wp2_with (go_at_call 53; refine (RG.out _).mono ?_; rintro e w' ⟨rfl, hw⟩; obtain rfl := hw.symm; clear hw)
              go_roundw
              case rel => exact ⟨k + 1, _, by go_num, by omega, HN.out.1, HN.out.2⟩
              case measure => simp [intOf]; omega
        · have hd : decide ((k : Int) < (f.regs : Int)) = false := by simp; omega
          obtain rfl : k = f.regs := by omega
          have HE : Hid (readD f l = some i) := by show _ = some i; rw [HRD.out, hri]; rfl
          clear hri
          go_wp2
          exact ret_cell_tmp rfl rfl (loadIn_row (rowIn_put _ _ _ (by assumption))) rfl ⟨_, by rw [HE.out]; rfl, (fun j h => by rw [HE.out] at h; injection h), below_put HA.out.bel _ (by omega) _⟩
    | true =>
      have hmm : (l.length : Int) = (f.regs : Int) + 1 := by rw [hlen, hm, hL]; simp
      have HRD : Hid (readD f l = (regsI l f.regs f.i).bind fun i => lastD i (l.getD f.regs [])) := by show _ = _; rw [hrd, hL]; rfl
      have hb : ((l.length : Int) != (f.regs : Int) + 1) = false := by simp; omega
      have hl1 : l.length ≤ f.regs + 1 := by omega
      have hl2 : f.regs + 1 ≤ l.length := by omega
      clear hrd hm hmm hlen
      go_enter Tryz.func31, Tryz.ntmps31
      go_wp2
      go_loopw [8] (fun x wr => ∃ (k : Nat) (i : In), x = .int .i64 k ∧ k ≤ f.regs ∧ regsI l k f.i = some i ∧ FAt w wr w.heap.size (w.heap.size + 1) (w.heap.size + 1 + 1) f i) (fun x _ => f.regs - (intOf x).toNat)
      case atStart => exact ⟨0, f.i, rfl, by omega, rfl, { row := rowAt_at _ _ _ _ _ (by simp), room := roomIn_new _ _ _ _ (by simp), ans := (roomAt_old _ _ _ _ (by simp)).trans (roomIn_new _ _ _ _ (by simp)), ne := by omega, lo := by omega, bel := by go_grown, box := (rowAt_old _ _ _ (by simp; omega)).trans ((rowAt_old _ _ _ (by simp)).trans (rowAt_at _ _ _ _ _ rfl)), nb := by omega }⟩
      case round =>
        obtain ⟨k, i, rfl, hk, hri, A⟩ := hrel
        have b0 := rowAt_cell A.box
        have r0 := A.row
        have r1 := rowAt_cell A.row
        have r2 := row_free A.room
        have r3 := A.ans
        have HA : Hid (FAt w wr w.heap.size (w.heap.size + 1) (w.heap.size + 1 + 1) f i) := A
        clear A ld
        by_cases hlt : k < f.regs
        · have hd : decide ((k : Int) < (f.regs : Int)) = true := by simp; omega
          obtain ⟨g, c, e, hg1, hg2⟩ := own_some HO.out (by omega)
          injection e with e1 e2 e3
          subst e1 e3
          have hkl : k < l.length := by omega
          have hc1 : wr.cell? ⟨g, k, none⟩ = some (.string (bs l[k])) := (HA.out.bel.cell (p := ⟨g, k, none⟩) hg2).trans (strs_cell HO.out k hkl)
          have hlk := HS.out l[k] (List.getElem_mem hkl)
          have hgd : l.getD k [] = l[k] := by simp [List.getD, List.getElem?_eq_getElem hkl]
          have RG : Hid (∀ X, Calls Tryz.prog 53 #[.string (bs l[k])] X _) := fun X => rregister_any l[k] X (by omega)
          generalize l[k] = x at hc1 RG hgd
          cases hr : rgD x with
          | none =>
            have hnone : regsI l f.regs f.i = none := regsI_none l f.i (k := k + 1) (by omega) (by rw [regsI, hri, Option.bind_some, hgd, hr]; rfl)
            have HE : Hid (readD f l = none) := by show _ = none; rw [HRD.out, hnone]; rfl
            rw [hr] at RG
            generalize rgV x = rv at RG
            clear hri hnone hgd
            go_wp2_with (go_at_call 53; refine (RG.out _).mono ?_; rintro e w' ⟨rfl, hw⟩; obtain rfl := hw.symm; clear hw)
            exact ret_cell_tmp rfl rfl (loadIn_row (rowIn_put _ _ _ (by assumption))) rfl ⟨_, by rw [HE.out]; rfl, (fun j h => by rw [HE.out] at h; cases h), below_put HA.out.bel _ (by omega) _⟩
          | some n =>
            have hnext : regsI l (k + 1) f.i = some (stepR k n i) := by rw [regsI, hri, Option.bind_some, hgd, hr]; rfl
            rw [rgV_of hr, hr] at RG
            by_cases hk0 : k = 0
            · have hkb : ((k : Int) == 0) = true := by simp; omega
              have A' := HA.out.set 3 (.int .i64 n) (by omega) (In.set3' _ n)
              have HN : Hid (regsI l (k + 1) f.i = some { i with A := n } ∧ FAt w (wr.setCell ⟨w.heap.size + 1 + 1, 3, none⟩ (.int .i64 n)) w.heap.size (w.heap.size + 1) (w.heap.size + 1 + 1) f { i with A := n }) := ⟨by rw [hnext, stepR, if_pos hk0], A'⟩
              clear hnext A' hri hgd hk0
              go_wp2_with (go_at_call 53; refine (RG.out _).mono ?_; rintro e w' ⟨rfl, hw⟩; obtain rfl := hw.symm; clear hw)
              go_roundw
              case rel => exact ⟨k + 1, _, by go_num, by omega, HN.out.1, HN.out.2⟩
              case measure => simp [intOf]; omega
            · have hkb : ((k : Int) == 0) = false := by simp; omega
              have A' := HA.out.set 4 (.int .i64 n) (by omega) (In.set4' _ n)
              have HN : Hid (regsI l (k + 1) f.i = some { i with B := n } ∧ FAt w (wr.setCell ⟨w.heap.size + 1 + 1, 4, none⟩ (.int .i64 n)) w.heap.size (w.heap.size + 1) (w.heap.size + 1 + 1) f { i with B := n }) := ⟨by rw [hnext, stepR, if_neg hk0], A'⟩
              clear hnext A' hri hgd hk0
              go_wp2_with (go_at_call 53; refine (RG.out _).mono ?_; rintro e w' ⟨rfl, hw⟩; obtain rfl := hw.symm; clear hw)
              go_roundw
              case rel => exact ⟨k + 1, _, by go_num, by omega, HN.out.1, HN.out.2⟩
              case measure => simp [intOf]; omega
        · have hd : decide ((k : Int) < (f.regs : Int)) = false := by simp; omega
          obtain rfl : k = f.regs := by omega
          obtain ⟨g, c, e, hg1, hg2⟩ := own_some HO.out (by omega)
          injection e with e1 e2 e3
          subst e1 e3
          have hkl : f.regs < l.length := by omega
          have hc1 : wr.cell? ⟨g, f.regs, none⟩ = some (.string (bs l[f.regs])) := (HA.out.bel.cell (p := ⟨g, f.regs, none⟩) hg2).trans (strs_cell HO.out f.regs hkl)
          have hlk := HS.out l[f.regs] (List.getElem_mem hkl)
          have hgd : l.getD f.regs [] = l[f.regs] := by simp [List.getD, List.getElem?_eq_getElem hkl]
          have HRI : Hid (readD f l = lastD i l[f.regs]) := by show _ = _; rw [HRD.out, hri, ← hgd]; rfl
          clear hri hgd HRD
          generalize l[f.regs] = x at hc1 HRI hlk
          have RG : Hid (∀ X, Calls Tryz.prog 53 #[.string (bs x)] X _) := fun X => rregister_any x X (by omega)
          have NU : Hid (∀ X, Calls Tryz.prog 54 #[.string (bs x)] X _) := fun X => rnumber_any x X (by omega)
          have A7 : ∀ n, FAt w (wr.setCell ⟨w.heap.size + 1 + 1, 7, none⟩ (.int .i64 n)) w.heap.size (w.heap.size + 1) (w.heap.size + 1 + 1) f { i with N := n } := fun n => HA.out.set 7 (.int .i64 n) (by omega) (In.set7' _ n)
          by_cases hin : ∃ n, numD x = some n ∧ -2147483648 ≤ n ∧ n < 2147483648
          · obtain ⟨n, hn, hn1, hn2⟩ := hin
            have HE : Hid (readD f l = some { i with N := n }) := by show _ = _; rw [HRI.out, lastD, hn]; simp only []; rw [if_pos ⟨hn1, hn2⟩]
            rw [hn] at NU
            have d1 : decide (-2147483648 ≤ n) = true := by simpa using hn1
            have d2 : decide (n < 2147483648) = true := by simpa using hn2
            have s0 := (A7 n).row
            have s3 := (A7 n).ans
            have HA7 := (A7 n).bel
            clear A7
            go_wp2_with (go_at_call 54; refine (NU.out _).mono ?_; rintro e w' ⟨rfl, hw⟩; obtain rfl := hw.symm; clear hw)
            exact ret_cell_tmp rfl rfl (loadIn_row (rowIn_put _ _ _ (by assumption))) rfl ⟨_, by rw [HE.out]; rfl, (fun j h => by rw [HE.out] at h; injection h), below_put HA7 _ (by omega) _⟩
          · have HL : Hid (readD f l = regLast i x) := by
              show _ = _
              rw [HRI.out, lastD]
              cases hn : numD x with
              | none => rfl
              | some n =>
                simp only []
                rw [if_neg (fun h => hin ⟨n, hn, h⟩)]
            clear A7
            have hnum : (numD x).isSome = false ∨ ((numD x).isSome = true ∧ decide (-2147483648 ≤ (numD x).getD 0) = false) ∨ ((numD x).isSome = true ∧ decide (-2147483648 ≤ (numD x).getD 0) = true ∧ decide ((numD x).getD 0 < 2147483648) = false) := by
              cases hn : numD x with
              | none => left; rfl
              | some n =>
                right
                simp only [Option.isSome_some, Option.getD_some, true_and]
                by_cases h1 : -2147483648 ≤ n
                · right
                  exact ⟨by simpa using h1, by simp; exact Int.not_lt.1 fun h2 => hin ⟨n, hn, h1, h2⟩⟩
                · left; simpa using h1
            clear hin HRI
            obtain ⟨rv, hrv⟩ : ∃ rv, rv = rgV x := ⟨_, rfl⟩
            obtain ⟨is, his⟩ : ∃ is, is = (rgD x).isSome := ⟨_, rfl⟩
            obtain ⟨rk, hrk⟩ : ∃ rk, rk = reckB i := ⟨_, rfl⟩
            have HQ : Hid ((readD f l).isSome = (is && rk) ∧ ∀ j, readD f l = some j → rk = true ∧ j = { i with C := rv, F := 0 }) := by
              show _ ∧ _
              rw [HL.out, his, hrk, hrv, regLast]
              cases hr : rgD x with
              | none => exact ⟨rfl, fun j h => by cases h⟩
              | some c =>
                rw [rgV_of hr]
                unfold reckB
                simp only []
                split
                · rename_i h1
                  exact ⟨by simp [h1], fun j h => ⟨by simpa using h1, by injection h with h; exact h.symm⟩⟩
                · rename_i h1
                  exact ⟨by simp [h1], fun j h => by cases h⟩
            rw [← hrv, ← his] at RG
            have AC := HA.out.set 6 (.int .i64 rv) (by omega) (In.set6' _ rv)
            have AF := AC.set 0 (.int .i64 0) (by omega) (In.set0' _ 0)
            have u0 := AC.row
            have u1 := rowAt_cell AC.row
            have u2 := row_free AC.room
            have u3 := AC.ans
            have f0 := AF.row
            have f3 := AF.ans
            have HAC : Hid (Below w.heap.size w _) := AC.bel
            have HAF : Hid (Below w.heap.size w _) := AF.bel
            clear HL hrv his AC AF r0 r3
            generalize (numD x).getD 0 = nv at NU hnum
            generalize (numD x).isSome = ns at NU hnum
            have hcase : ((i.F == 1) = false ∧ rk = false) ∨ ((i.F == 1) = true ∧ (i.O != 15) = false ∧ rk = false) ∨ ((i.F == 1) = true ∧ (i.O != 15) = true ∧ (i.O != 0) = true ∧ rk = true) ∨ ((i.F == 1) = true ∧ (i.O != 15) = true ∧ (i.O != 0) = false ∧ i.U = true ∧ rk = false) ∨ ((i.F == 1) = true ∧ (i.O != 15) = true ∧ (i.O != 0) = false ∧ i.U = false ∧ i.V = true ∧ rk = false) ∨ ((i.F == 1) = true ∧ (i.O != 15) = true ∧ (i.O != 0) = false ∧ i.U = false ∧ i.V = false ∧ rk = true) := by
              rw [hrk]
              unfold reckB
              by_cases h1 : i.F = 1
              · by_cases h2 : i.O = 15
                · right; left; simp [h1, h2]
                · by_cases h3 : i.O = 0
                  · cases hU : i.U <;> cases hV : i.V <;> simp [h1, h3]
                  · right; right; left; simp [h1, h2, h3]
              · left; simp [h1]
            clear hrk
            rcases hnum with n1 | ⟨n1, n2⟩ | ⟨n1, n2, n3⟩ <;> rcases hcase with ⟨k1, rfl⟩ | ⟨k1, k2, rfl⟩ | ⟨k1, k2, k3, rfl⟩ | ⟨k1, k2, k3, k4, rfl⟩ | ⟨k1, k2, k3, k4, k5, rfl⟩ | ⟨k1, k2, k3, k4, k5, rfl⟩ <;> cases is
            all_goals
              rw [n1] at NU
              clear n1
              go_wp2_with (first | (go_at_call 54; refine (NU.out _).mono ?_; rintro e w' ⟨rfl, hw⟩; obtain rfl := hw.symm; clear hw) | (go_at_call 53; refine (RG.out _).mono ?_; rintro e w' ⟨rfl, hw⟩; obtain rfl := hw.symm; clear hw))
              first
                | exact ret_cell_tmp rfl rfl (loadIn_row (rowIn_put _ _ _ u3)) rfl ⟨_, by rw [HQ.out.1]; rfl, (fun j h => by have := (HQ.out.2 j h).1; cases this), below_put HAC.out _ (by omega) _⟩
                | exact ret_cell_tmp rfl rfl (loadIn_row (rowIn_put _ _ _ f3)) rfl ⟨_, by rw [HQ.out.1]; rfl, (fun j h => (HQ.out.2 j h).2.symm), below_put HAF.out _ (by omega) _⟩
                | exact ret_cell_tmp rfl rfl (loadIn_row (rowIn_put _ _ _ f3)) rfl ⟨{ i with C := rv, F := 0 }, by rw [HQ.out.1, k4, k5]; rfl, (fun j h => (HQ.out.2 j h).2.symm), below_put HAF.out _ (by omega) _⟩
  · rw [if_neg hlen] at hrd
    have HE : Hid (readD f l = none) := hrd
    clear hrd
    cases hL : f.last
    all_goals
      have hne : ((l.length : Int) != (manyF f : Int)) = true := by simp; omega
      rw [hm, hL] at hne
      simp only [if_true, Bool.false_eq_true, if_false, Int.add_zero] at hne
      go_enter Tryz.func31, Tryz.ntmps31
      go_wp2
      exact ret_cell_tmp rfl rfl (loadIn_row (by simp [go_sem]; rfl)) rfl ⟨_, by rw [HE.out]; rfl, (fun j h => by rw [HE.out] at h; cases h), by go_grown⟩
end Go.Proofs.YtmldlkcgaepaaaaGreatDoor
