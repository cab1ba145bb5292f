/-
  Proved: for every text and every number the law DirNone returns true, where the package variables that its row lists hold what their initialisers lay. No other condition.
-/
import Derived.Test.YtmjflbleobmjdaaGreatDoorShn
import Derived.Test.YtmjflbleobmjdaaGreatDoorDor
namespace Go.Proofs.YtmjflbleobmjdaaGreatDoor
open Go.ChangeShapes Go.WideShapes Go.ChangeAt Go.RowKit
open Go.ChangeMaps (open_string shut_string)
set_option linter.unusedVariables false
attribute [local go_sem ↓] loadSec_seal storeSec_seal eqlSec_seal zeroSec
attribute [local go_sem] loadSec_run storeSec_run rowAt_at rowAt_old rowAt_drew rowAt_drewN roomSec_new roomAt_old roomAt_drew roomAt_drewN putSec_new putRow_past rowSec_put size_put putRow_drew putRow_drewN alloc_drewN setCell_drewN sec_size

set_option linter.unusedVariables false
namespace dirNone
set_option maxHeartbeats 4000000 in
theorem walk (s : ByteArray) (n : Int) (m0 : Int) (w : World) (hm : w.cell? ⟨0, 0, none⟩ = some (.int .i64 m0)) : Calls Tryz.prog 3 #[.string s, .int .i64 n] w fun e w' => e = .returned (.bool true) ∧ Below w.heap.size w w' := by
  have HM := hidD hm
  clear hm
  go_enter Tryz.func3, Tryz.ntmps3
  go_wp2_with (first
    | (go_at_call 4; refine (shown_any m0 _ HM.out).mono ?_; rintro e w1 ⟨rfl, b1⟩; have H1 : Hid (Below w.heap.size w w1) := b1; clear b1)
    | (go_at_call 5; refine (find_nil _ _).mono ?_; rintro e w2 ⟨rfl, b1⟩; have H2 : Hid (Below w.heap.size w w2) := H1.out.trans (b1.mono H1.out.size); clear b1 H1)
    | (go_at_call 6; refine (insert_nil _ _ _ _).mono ?_; rintro e w3 ⟨rfl, b1⟩; have H3 : Hid (Below w.heap.size w w3) := (H2.out.alloc H2.out.size _).trans (b1.mono (by have := H2.out.size; simp; omega)); clear b1 H2)
    | (go_at_call 7; refine (delete_nil _ _).mono ?_; rintro e w4 ⟨rfl, b1⟩; have H4 : Hid (Below w.heap.size w w4) := H3.out.trans (b1.mono H3.out.size); clear b1 H3)
    | (go_at_call 8; refine (rename_nil _ _ _).mono ?_; rintro e w5 ⟨rfl, b1⟩; have H5 : Hid (Below w.heap.size w w5) := H4.out.trans (b1.mono H4.out.size); clear b1 H4)
    | (go_at_call 9; refine (take_nil _).mono ?_; rintro e w6 ⟨rfl, b1⟩; have H6 : Hid (Below w.heap.size w w6) := H5.out.trans (b1.mono H5.out.size); clear b1 H5)
    | (go_at_call 10; refine (give_nil _ _).mono ?_; rintro e w7 ⟨rfl, b1⟩; have H7 : Hid (Below w.heap.size w w7) := H6.out.trans (b1.mono H6.out.size); clear b1 H6)
    | (go_at_call 11; refine (open_nil _).mono ?_; rintro e w8 ⟨rfl, b1⟩; have H8 : Hid (Below w.heap.size w w8) := H7.out.trans (b1.mono H7.out.size); clear b1 H7)
    | (go_at_call 12; refine (format_nil _).mono ?_; rintro e w9 ⟨rfl, b1⟩; have H9 : Hid (Below w.heap.size w w9) := b1 ▸ H8.out; clear b1 H8)
    | (go_at_call 13; refine (free_nil _).mono ?_; rintro e w10 ⟨rfl, b1⟩; have H10 : Hid (Below w.heap.size w w10) := H9.out.trans (b1.mono H9.out.size); clear b1 H9)
    | (go_at_call 14; refine (all_nil _).mono ?_; rintro e w11 ⟨rfl, b1⟩; have H11 : Hid (Below w.heap.size w w11) := H10.out.trans (b1.mono H10.out.size); clear b1 H10)
    | (go_at_call 15; refine (disk_nil _).mono ?_; rintro e w12 ⟨rfl, b1⟩; have H12 : Hid (Below w.heap.size w w12) := H11.out.trans (b1.mono H11.out.size); clear b1 H11))
  go_ret
  exact ⟨rfl, H12.out⟩
def laidN : List (String × DataW Unit) := Rows.dirNoneRow.laid
set_option maxRecDepth 100000 in
theorem lifted (os : Os) (started : os.Started) (H : Type) (enc : TypeId × Value → H) :
    ReturnsInHanded {} Tryz.checked os 3 .any (fun w args => (Rows.dirNoneSpec.pre enc Tryz.prog Tryz.f3 [] false w args ∧ laidMetH Tryz.prog laidN w) ∧ sizedMet enc Tryz.prog Tryz.f3 (OpenSpec.ofChange Rows.dirNoneSpec) false w args)
      (Rows.dirNoneSpec.post enc Tryz.prog Tryz.f3 false true false false) := by
  refine returns_laid (C := Tryz.checked) (X := fun w _ => laidMetH Tryz.prog laidN w) (fun _ _ _ hh h => h.of_heap hh) ownD started (by kernel_rfl) Tryz.func3
    (ChangeSpec.witness_shaped (enc := enc) (C := Tryz.checked) (os := os) (X := fun w _ => laidMetH Tryz.prog laidN w) false (World.laidAll Tryz.prog os laidN) #[.string .empty, .int .i64 0] 8 (World.laidAll_os _ _ _)
      (World.shaped_of_ZipB (by kernel_rfl) (by kernel_rfl)) (by kernel_rfl) (by kernel_rfl) (by kernel_rfl)
      (by rw [MakeChecks.laidMetH_plain _ _ _ (by kernel_rfl)]; exact laidMet_laidAll _ (by kernel_rfl) (by kernel_rfl))) ?_
  intro W base args ds gs before hS hL hval0 hW
  obtain ⟨m0, hm⟩ := max_of hS
  clear hS hL
  have hval : ∀ (j : Nat) t v, Tryz.f3.params[j]? = some t → args[j]? = some v → Value.okWide Tryz.prog W .any base t v := hval0
  have hW' := hW
  obtain ⟨p, q, hA0, hV, rfl, hfz, hnd⟩ := hW
  have hA : DataW.TrodAll enc Tryz.prog W 0 (fun _ => true) true Tryz.f3.params.toList args.toList ds p := hA0
  rw [Tryz.params3] at hA hval
  obtain ⟨v0, vs0, d0, ds0, p0, q0, hargs, rfl, rfl, h0, r0⟩ := trodAll_cons hA
  obtain ⟨v1, vs1, d1, ds1, p1, q1, rfl, rfl, rfl, h1, r1⟩ := trodAll_cons r0
  obtain ⟨rfl, rfl, rfl⟩ := trodAll_nil r1
  obtain rfl : args = #[v0, v1] := by cases args; simp_all
  obtain ⟨rfl, rfl⟩ := trodVars_none hV
  obtain ⟨s0, rfl, rfl, rfl, w0⟩ := open_string Tryz.underlying9 (hval 0 9 v0 rfl rfl) h0
  obtain ⟨a1, rfl, rfl, rfl, w1⟩ := open_int Tryz.underlying3 (hval 1 3 v1 rfl rfl) h1
  clear hA0 hval0
  simp only [List.append_nil] at hW'
  refine (walk s0 a1 m0 W hm).mono fun e W' ⟨he, bel⟩ => ?_
  subst he
  exact ⟨_, rfl, _, _, _, [], _, [], hW', trodAll_mk1 (shut_bool Tryz.underlying4 _), (trodAll_cons_mk (shut_string Tryz.underlying9 w0) (trodAll_cons_mk (shut_int Tryz.underlying3 w1) trodAll_mk0)), rfl, bel.frame _, fun h => by cases h⟩

theorem over : Rows.DirNoneSaid :=
  OpenClaim.holds_of_wide 3 Tryz.f3 rfl rfl rfl rfl rfl rfl rfl ⟨rfl, rfl, rfl, rfl, rfl⟩ rfl rfl rfl rfl rfl (by kernel_rfl) Tryz.func3 (by kernel_rfl)
    (of_decide_eq_true (by kernel_rfl)) (by unfold Func.isWrapper; first | (rw [if_pos (by decide +kernel)]; kernel_rfl) | (rw [if_neg (by decide +kernel)]; exact ⟨rfl, rfl⟩))
    (fun os started H enc _ => lifted os started H enc)
end dirNone
/-- The given card. -/
theorem dirNone_holds : Rows.DirNoneCardSaid :=
  Claim7.holds_tied_plain_at .later [] _ _ _ _ dirNone.over (fun _ h => by cases h) (by kernel_rfl) (fun _ h => by cases h) dirNone_row_tie rfl ⟨rfl, rfl⟩ (by kernel_rfl) rfl
    (fun f fn hf hfn => by
      obtain rfl : f = 3 := Option.some.inj ((show Tryz.prog.funcNamed "carrel/carrellaw17.DirNone" = some 3 by kernel_rfl).symm.trans hf) |>.symm
      obtain rfl : fn = Tryz.f3 := (Option.some.inj (Tryz.func3.symm.trans hfn)).symm
      exact ⟨by kernel_rfl, fun j t ht => by
        rw [Tryz.params3] at ht
        have hm : t ∈ [9, 3] := by simpa using Array.mem_of_getElem? ht
        have hall : ([9, 3].all fun u => !Tryz.prog.wantsStandIn u) = true := by kernel_rfl
        exact (show Tryz.prog.wantsStandIn t = false by simpa using List.all_eq_true.1 hall t hm)⟩)
    (by kernel_rfl)
#print axioms dirNone_holds
end Go.Proofs.YtmjflbleobmjdaaGreatDoor
