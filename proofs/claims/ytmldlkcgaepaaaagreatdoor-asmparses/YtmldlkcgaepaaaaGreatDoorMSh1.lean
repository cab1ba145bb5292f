/-
  Contracts of the functions of layer 6 that name an instruction and its operands' kinds: each returns the plain text, for every instruction.
-/
import Derived.Test.YtmldlkcgaepaaaaGreatDoorMVrs
namespace Go.Proofs.YtmldlkcgaepaaaaGreatDoor
open Go.ChangeShapes Go.WideShapes Go.ChangeAt Go.RowKit
attribute [local go_sem ↓] loadIn_seal storeIn_seal
attribute [local go_sem] loadIn_run storeIn_run rowAt_at rowAt_old rowAt_drew rowAt_drewN roomCpu_new roomIn_new roomAt_old roomAt_drew roomAt_drewN putCpu_new putIn_new Cp.zero_fold In.fold putRow_past rowCpu_put rowIn_put size_put putRow_drew putRow_drewN alloc_drewN setCell_drewN Cp.at16 Cp.at17 Cp.at18 Cp.at19 Cp.at20 Cp.at21 Cp.size Cp.set16 Cp.set17 Cp.set18 Cp.set19 Cp.set20 Cp.set21 In.at0 In.at1 In.at2 In.at3 In.at4 In.at5 In.at6 In.at7 In.size In.set0 In.set1 In.set2 In.set3 In.ne Cp.ne In.set4 In.set5 In.set6 In.set7

theorem takes_any (i : In) (w : World) : Calls Tryz.prog 60 #[.agg i.cells] w fun e w' => e = .returned (.bool (takesP i)) ∧ Below w.heap.size w w' := by
  go_enter Tryz.func60, Tryz.ntmps60
  go_wp2
  all_goals go_ret
  all_goals refine ⟨ret_bool ?_, (Below.refl _ _).alloc (Nat.le_refl _) _⟩
  all_goals (unfold takesP; rw [Bool.eq_iff_iff]; simp_all)
theorem lastKind_any (i : In) (w : World) : Calls Tryz.prog 61 #[.agg i.cells] w fun e w' => e = .returned (.string (bs (lastP i))) ∧ Below w.heap.size w w' := by
  go_enter Tryz.func61, Tryz.ntmps61
  go_wp2
  all_goals go_ret
  all_goals refine ⟨ret_str ?_, (Below.refl _ _).alloc (Nat.le_refl _) _⟩
  all_goals (unfold lastP; simp_all [bs])
theorem transfer_any (i : In) (w : World) : Calls Tryz.prog 64 #[.agg i.cells] w fun e w' => e = .returned (.string (bs (memName i))) ∧ Below w.heap.size w w' := by
  go_enter Tryz.func64, Tryz.ntmps64
  go_wp2
  all_goals go_ret
  all_goals refine ⟨ret_str ?_, (Below.refl _ _).alloc (Nat.le_refl _) _⟩
  all_goals (unfold memName; simp_all [bs])
theorem letter_any (b : Bool) (c : UInt8) (w : World) : Calls Tryz.prog 65 #[.bool b, .string { data := #[c] }] w fun e w' => e = .returned (.string (bs (letP b c))) ∧ w' = w := by
  cases b
  · go_enter Tryz.func65, Tryz.ntmps65
    go_wp2
    go_ret
    exact ⟨ret_str rfl, rfl⟩
  · go_enter Tryz.func65, Tryz.ntmps65
    go_wp2
    go_ret
    exact ⟨ret_str rfl, rfl⟩
theorem behind_any (a : Int) (w : World) : Calls Tryz.prog 63 #[.int .u32 a] w fun e w' => e = .returned (.int .u32 ((a + 4) % 4294967296)) ∧ w' = w := by
  go_enter Tryz.func63, Tryz.ntmps63
  go_wp2
  go_ret
  exact ⟨ret_int rfl, rfl⟩
theorem last_size (i : In) : (bs (lastP i)).size ≤ 1 := by unfold lastP; split <;> decide
theorem kinds_any (i : In) (w : World) : Calls Tryz.prog 35 #[.agg i.cells] w fun e w' => e = .returned (.string (bs (kindsP i))) ∧ Below w.heap.size w w' := by
  have hz := last_size i
  go_enter Tryz.func35, Tryz.ntmps35
  go_wp2_with (first | (go_at_call 60; refine (takes_any i _).mono ?_; rintro e w1 ⟨rfl, hb⟩; obtain ⟨hc, hq, hm, hz⟩ := bcell hb; have hs := hb.size; simp at hs) | (go_at_call 61; refine (lastKind_any i _).mono ?_; rintro e w2 ⟨rfl, hb2⟩))
  all_goals go_ret
  all_goals refine ⟨ret_str ?_, ?_⟩
  all_goals first | exact (Below.refl _ _).alloc (Nat.le_refl _) _ | exact ((Below.refl _ _).alloc (Nat.le_refl _) _).trans (hb2.mono (by have := hb.size; simp at this ⊢; omega)) | exact ((Below.refl _ _).alloc (Nat.le_refl _) _).trans (hb.mono (by simp)) | exact (((Below.refl _ _).alloc (Nat.le_refl _) _).trans (hb.mono (by simp))).trans (hb2.mono (by have := hb.size; simp at this; omega)) | skip
  all_goals (unfold kindsP; simp_all [bs])
  all_goals first | exact bs_app [65] _ | exact bs_app [65, 66] _
theorem let_size (b : Bool) (c : UInt8) : (bs (letP b c)).size ≤ 1 := by cases b <;> simp [letP, bs_size]
theorem op_size (o : Int) : (bs (opName o)).size ≤ 4 := by unfold opName; split <;> decide
theorem nameP_op (i : In) (h2 : i.F ≠ 2) (h3 : i.F ≠ 3) (ht : takesP i = false) : nameP i = opName i.O ++ letP i.U 85 ++ letP i.V 86 := by simp [nameP, h2, h3, ht]
theorem name_any (i : In) (w : World) (V : Vars w) (h0 : 0 ≤ i.O) (h1 : i.O < 16) : Calls Tryz.prog 37 #[.agg i.cells] w fun e w' => e = .returned (.string (bs (nameP i))) ∧ Below w.heap.size w w' := by
  have ht := V.ops i.O.toNat (by omega)
  rw [Int.toNat_of_nonneg h0] at ht
  have hbig := V.big
  have od : decide (i.O < 0) = false := by simpa using h0
  have oe : decide (16 ≤ i.O) = false := by simpa using h1
  have z0 := op_size i.O
  have z1 := let_size i.U 85
  have z2 := let_size i.V 86
  have hb1 : 1 < w.heap.size + 1 := by omega
  clear V
  by_cases h2 : i.F = 2
  · have hn : nameP i = memName i := by simp [nameP, h2]
    rw [hn]
    have g2 : (i.F == 2) = true := by simpa using h2
    clear ht z0 z1 z2 od oe
    go_enter Tryz.func37, Tryz.ntmps37
    go_wp2_with (go_at_call 64; refine (transfer_any i _).mono ?_; rintro e w1 ⟨rfl, hb⟩)
    go_ret
    exact ⟨rfl, ((Below.refl _ _).alloc (Nat.le_refl _) _).trans (hb.mono (by simp))⟩
  · have g2 : (i.F == 2) = false := by simpa using h2
    by_cases h3 : i.F = 3
    · have g3 : (i.F == 3) = true := by simpa using h3
      clear ht z0 z1 z2 od oe
      cases hV : i.V
      all_goals
        have hn : nameP i = (if i.V then [67, 65, 76, 76] else [74, 77, 80]) := by simp [nameP, h3]
        rw [hn, hV]
        go_enter Tryz.func37, Tryz.ntmps37
        go_wp2
        go_ret
        exact ⟨rfl, (Below.refl _ _).alloc (Nat.le_refl _) _⟩
    · have g3 : (i.F == 3) = false := by simpa using h3
      cases ht2 : takesP i
      · have hn := nameP_op i h2 h3 ht2
        have TK : ∀ w, Calls Tryz.prog 60 #[.agg i.cells] w fun e w' => e = .returned (.bool false) ∧ Below w.heap.size w w' := fun w => by have := takes_any i w; rwa [ht2] at this
        rw [hn]
        clear hn ht2
        go_enter Tryz.func37, Tryz.ntmps37
        go_wp2_with (first | (go_at_call 60; have hx := hb; clear hx; refine (TK _).mono ?_; rintro e w2 ⟨rfl, hb2⟩) | (go_at_call 60; refine (TK _).mono ?_; rintro e w1 ⟨rfl, hb⟩; obtain ⟨hc, hq, hm, hz⟩ := bcell hb; have hs := hb.size; (try simp at hs)))
        have HB : Below (w.heap.size + 1) (w.alloc (.cells i.cells 52)) w2 := (hb.mono (by simp)).trans (hb2.mono (by omega))
        have k1 : rowAt w2 w.heap.size = some i.cells := (rowAt_below HB _ (by omega)).trans (rowAt_new _ _ _ _)
        have k2 : ∀ j, w2.cell? ⟨w.heap.size, j, none⟩ = i.cells[j]? := rowAt_cell k1
        have k3 : w2.cell? ⟨1, i.O.toNat, none⟩ = some (.string (bs (opName i.O))) := (HB.cell (p := ⟨1, _, none⟩) hb1).trans ((World.cell?_alloc_old _ _ _ (by show (1 : Nat) ≠ _; omega)).trans ht)
        have hbb : Below w.heap.size w w2 := ((Below.refl _ _).alloc (Nat.le_refl _) _).trans (HB.mono (by simp))
        clear hb hb2 hc hq hm hz hs TK ht HB
        go_quiet ((go_at_call 65; exact Calls.quiet_of_same (letter_any _ _ _)))
        go_wp2
        go_ret
        exact ⟨ret_str (by rw [bs_app, bs_app]), bdrewN hbb _⟩
      · cases hV : i.V
        all_goals
          have hn : nameP i = (if i.V then [77, 79, 86, 70] else [77, 79, 86, 72]) := by simp [nameP, h2, h3, ht2]
          have TK : ∀ w, Calls Tryz.prog 60 #[.agg i.cells] w fun e w' => e = .returned (.bool true) ∧ Below w.heap.size w w' := fun w => by have := takes_any i w; rwa [ht2] at this
          rw [hn, hV]
          clear hn ht2 ht z0 z1 z2 od oe
          go_enter Tryz.func37, Tryz.ntmps37
          go_wp2_with (first | (go_at_call 60; have hx := hb; clear hx; refine (TK _).mono ?_; rintro e w2 ⟨rfl, hb2⟩) | (go_at_call 60; refine (TK _).mono ?_; rintro e w1 ⟨rfl, hb⟩; obtain ⟨hc, hq, hm, hz⟩ := bcell hb; have hs := hb.size; (try simp at hs)))
          go_ret
          first | exact ⟨rfl, (((Below.refl _ _).alloc (Nat.le_refl _) _).trans (hb.mono (by simp))).trans (hb2.mono (by omega))⟩ | exact ⟨rfl, ((Below.refl _ _).alloc (Nat.le_refl _) _).trans (hb.mono (by simp))⟩
end Go.Proofs.YtmldlkcgaepaaaaGreatDoor
