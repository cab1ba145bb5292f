/-
  The law on instructions: every instruction is encoded by the program as by the document, whatever the row of instructions, right or not; no condition but what the program's text lays into its table.
-/
import Derived.Test.YtpiiidelmcnhnaaDoorLaidR
import Derived.Test.YtpiiidelmcnhnaaDoorDoor
import Derived.Test.YtpiiidelmcnhnaaDoorTie
import Derived.Test.YtpiiidelmcnhnaaDoorCards
import Derived.Lay
import Derived.SevenTiedAt
import Derived.JoinedOf
import Derived.ChangeSame
namespace Go.Proofs.YtpiiidelmcnhnaaDoor
open Go.ChangeShapes Go.WideShapes Go.ChangeAt Go.RowKit
attribute [local go_sem ↓] loadCpu_seal storeCpu_seal loadIn_seal storeIn_seal
attribute [local go_sem] loadCpu_run storeCpu_run loadIn_run storeIn_run rowAt_at rowAt_past rowAt_drew rowAt_drewN roomCpu_new roomIn_new roomAt_old roomAt_drew roomAt_drewN putCpu_new putIn_new Cp.zero_fold In.fold putRow_past rowCpu_put rowIn_put size_put putRow_drew putRow_drewN alloc_drewN setCell_drewN Cp.at16 Cp.at17 Cp.at18 Cp.at19 Cp.at20 Cp.at21 Cp.size Cp.set16 Cp.set17 Cp.set18 Cp.set19 Cp.set20 Cp.set21 In.at0 In.at1 In.at2 In.at3 In.at4 In.at5 In.at6 In.at7 In.size In.set0 In.set1 In.set2 In.set3 In.ne Cp.ne In.set4 In.set5 In.set6 In.set7

theorem loadIn_at {w : World} {b o : Nat} (i : In) (h : w.rangeAt b o i.cells.toList) : (loadIn ⟨b, o, none⟩).run Tryd.prog w = .ok (.agg i.cells) w := by
  have := run_loadVar_mid (P := Tryd.prog) w b o 24 i.cells.toList _ h Tryd.underlying24 rfl Tryd.sizeIn
  simpa [loadIn] using this
theorem range_below {B : Nat} {w w' : World} {b o : Nat} {cs : List Value} (hb : Below B w w') (hB : b < B) (h : w.rangeAt b o cs) : w'.rangeAt b o cs := fun j v hv => (hb.cell (p := ⟨b, o + j, none⟩) hB).trans (h j v hv)
def RdI (w : World) (a : Option Addr) (len : Nat) (g : Nat → In) : Prop :=
  len ≤ maxLen ∧ (len = 0 ∨ ∃ b off, a = some ⟨b, off, none⟩ ∧ b < w.heap.size ∧ ∀ i, i < len → w.rangeAt b (off + i * 8) (g i).cells.toList)
theorem open_instrs {H : Type} {enc : TypeId × Value → H} {W : World} {base : Nat} {r : Reach} {b0 : Nat} {v : Value} {d : DataW H} {p : List MemPlace} (hv : Value.okWide Tryd.prog W r b0 30 v) (h : DataW.Trod enc Tryd.prog W base (fun _ => true) true 30 v d p) :
    ∃ a len cap g, v = .slice a len cap ∧ RdI W a len g := by
  obtain ⟨a0, len0, cap0, rfl⟩ := okWide_slice Tryd.underlying30 hv
  obtain ⟨fuel, hf⟩ := h
  rcases Go.Deep.open_slice Tryd.underlying30 hf with ⟨hcs, _⟩ | ⟨a, len, cap, m, n, D, Pl, hcs, _, hl, hm, hmm, _, hel⟩
  · simp [Value.cells] at hcs
    obtain ⟨rfl, rfl, rfl⟩ := hcs
    exact ⟨none, 0, 0, fun _ => In.zero, rfl, by unfold maxLen; omega, .inl rfl⟩
  · simp [Value.cells] at hcs
    obtain ⟨rfl, rfl, rfl⟩ := hcs
    have hmc : m = cap0 := by simpa using hmm
    have hall : ∀ i, ∃ gi : In, i < len0 → ∀ j, j < 8 → W.cell? ((a.add (i * 8)).add j) = gi.cells.toList[j]? := by
      intro i
      by_cases hi : i < len0
      · obtain ⟨cs', hc, ht⟩ := hel i (by omega)
        rw [Tryd.cellsN] at hc
        obtain ⟨gi, rfl⟩ := in_of_list ht
        exact ⟨gi, fun _ j hj => (World.cells?_some hc).2.2 j hj⟩
      · exact ⟨In.zero, fun h => absurd h hi⟩
    obtain ⟨g, hg⟩ := Classical.axiomOfChoice hall
    refine ⟨some a, len0, cap0, g, rfl, by omega, ?_⟩
    by_cases h0 : len0 = 0
    · exact .inl h0
    · have first := hg 0 (by omega) 0 (by omega)
      obtain ⟨b, off, spot⟩ := a
      have hspot : spot = none := by
        have e : (g 0).cells.toList[0]? = some (.int .i64 (g 0).F) := rfl
        rw [e] at first
        have := World.cell?_spot first
        simpa [Addr.add] using this
      subst hspot
      have hcell : ∀ i, i < len0 → ∀ j, j < 8 → W.cell? ⟨b, off + i * 8 + j, none⟩ = (g i).cells.toList[j]? := fun i hi j hj => by
        have := hg i hi j hj
        rwa [Go.WideShapes.add_plain, Go.WideShapes.add_plain] at this
      refine .inr ⟨b, off, rfl, ?_, fun i hi j v hv => ?_⟩
      · exact World.block_lt_of_cell? W _ (hcell 0 (by omega) 0 (by omega))
      · have hj : j < 8 := by
          have := (List.getElem?_eq_some_iff.1 hv).1
          simpa [In.cells] using this
        rw [hcell i hi j hj]; exact hv
namespace cpuInstrs
set_option maxHeartbeats 4000000 in
theorem walk (a : Option Addr) (len cap : Nat) (g : Nat → In) (w : World) (hw : Ways w) (hr : RdI w a len g) : Calls Tryd.prog 4 #[.slice a len cap] w fun e w' => e = .returned (.bool true) ∧ Below w.heap.size w w' := by
  obtain ⟨hm, hr⟩ := hr
  unfold maxLen at hm
  have HW : Hid (Ways w) := hw
  have HC : Hid (∀ k, k < len → ∃ b off, a = some ⟨b, off, none⟩ ∧ b < w.heap.size ∧ w.rangeAt b (off + k * 8) (g k).cells.toList) := by
    intro k hk
    rcases hr with h | ⟨b, off, rfl, hb, h⟩
    · omega
    · exact ⟨b, off, rfl, hb, h k hk⟩
  clear hr hw
  go_enter Tryd.func4, Tryd.ntmps4
  go_wp2
  go_loopw [3] (fun i X => ∃ k : Nat, k ≤ len ∧ i = .int .i64 k ∧ Below w.heap.size w X) (fun i _ => len - (intOf i).toNat)
  case atStart => exact ⟨0, Nat.zero_le _, rfl, Below.refl _ _⟩
  case round =>
    obtain ⟨k, hk, rfl, hX⟩ := hrel
    have HB : Hid (Below w.heap.size w _) := hX
    by_cases hlt : k < len
    · obtain ⟨b, off, rfl, hbl, hrg⟩ := HC.out k hlt
      have ld0 := loadIn_at (g k) (range_below hX hbl hrg)
      have HR : Hid (w.rangeAt b (off + k * 8) (g k).cells.toList) := hrg
      have HL : Hid (b < w.heap.size) := hbl
      clear hX HC hrg hbl
      go_wp2_with (first | (go_at_call 12; refine (encode_any _ _ (HW.out.below HB.out HW.out.big)).mono ?_; rintro e w1 ⟨rfl, hb⟩; have HB1 : Hid (Below w.heap.size w w1) := HB.out.trans (hb.mono HB.out.size); have ld1 := loadIn_at (g k) (range_below HB1.out HL.out HR.out)) | (go_at_call 13; refine (rencode_any _ _).mono ?_; rintro e w2 ⟨rfl, hb2⟩; have HB2 : Hid (Below w.heap.size w w2) := HB1.out.trans (hb2.mono HB1.out.size)))
      go_roundw
      case rel => exact ⟨k + 1, by omega, by go_num, HB2.out⟩
      case measure => simp [intOf]; omega
    · clear hX HC
      go_wp2_with (go_at_call 11; refine (shown_any _ (HW.out.below HB.out HW.out.big)).mono ?_; rintro e w1 ⟨rfl, hb⟩)
      go_ret
      exact ⟨rfl, HB.out.trans (hb.mono HB.out.size)⟩
set_option maxRecDepth 100000 in
theorem lifted (os : Os) (started : os.Started) (H : Type) (enc : TypeId × Value → H) :
    ReturnsInHanded {} Tryd.checked os 4 .any (fun w args => (Rows.cpuInstrsSpec.pre enc Tryd.prog Tryd.f4 [] false w args ∧ laidMetH Tryd.prog [("carrel/cpu.ways", Rows.laid_carrel_cpu_ways)] w) ∧ sizedMet enc Tryd.prog Tryd.f4 (OpenSpec.ofChange Rows.cpuInstrsSpec) false w args)
      (Rows.cpuInstrsSpec.post enc Tryd.prog Tryd.f4 false true false false) := by
  refine returnsInHanded_of_change_and (C := Tryd.checked) (X := fun w _ => laidMetH Tryd.prog [("carrel/cpu.ways", Rows.laid_carrel_cpu_ways)] w) (fun _ _ _ hh h => h.of_heap hh) own started (by kernel_rfl) Tryd.func4
    (ChangeSpec.witness_shaped (enc := enc) (C := Tryd.checked) (os := os) (X := fun w _ => laidMetH Tryd.prog [("carrel/cpu.ways", Rows.laid_carrel_cpu_ways)] w) false (World.laidAll Tryd.prog os [("carrel/cpu.ways", Rows.laid_carrel_cpu_ways)]) #[.slice none 0 0] 8 (World.laidAll_os _ _ _)
      (World.shaped_of_ZipB (by kernel_rfl) (by kernel_rfl)) (by kernel_rfl) (by kernel_rfl) (by kernel_rfl)
      (by rw [MakeChecks.laidMetH_plain _ _ _ (by kernel_rfl)]; exact laidMet_laidAll _ (by kernel_rfl) (by kernel_rfl))) ?_
  intro W base args ds gs before hval0 hW _ _ hL _
  have hval : ∀ (j : Nat) t v, Tryd.f4.params[j]? = some t → args[j]? = some v → Value.okWide Tryd.prog W .any base t v := hval0
  have hW' := hW
  obtain ⟨p, q, hA0, hV, rfl, _, _⟩ := hW
  have hA : DataW.TrodAll enc Tryd.prog W 0 (fun _ => true) true Tryd.f4.params.toList args.toList ds p := hA0
  rw [Tryd.params4] at hA hval
  obtain ⟨v0, vs0, d0, ds0, p0, q0, hargs, rfl, rfl, h0, r0⟩ := trodAll_cons hA
  obtain ⟨rfl, rfl, rfl⟩ := trodAll_nil r0
  obtain rfl : args = #[v0] := by cases args; simp_all
  obtain ⟨rfl, rfl⟩ := trodVars_none hV
  have lt0 : ∀ x ∈ p0, x.block < W.heap.size := by obtain ⟨m, hm⟩ := h0; exact DataW.trod_lt m _ _ _ hm
  obtain ⟨a, len, cap, f, rfl, hf⟩ := open_instrs (hval 0 30 v0 rfl rfl) h0
  clear hA0 hval0
  simp only [List.append_nil] at hW'
  refine (walk a len cap f W (ways_of_laid hL) hf).mono fun e W' ⟨he, hg⟩ => ?_
  subst he
  exact ⟨_, rfl, _, _, _, [], _, [], hW', trodAll_mk1 (shut_bool Tryd.underlying4 _), (trodAll_cons_mk (Below.trod laidOut (by kernel_rfl) (of_decide_eq_true (by kernel_rfl)) h0 hg lt0) trodAll_mk0), rfl, hg.frame _, fun h => by cases h⟩
theorem over : Rows.CpuInstrsSaid :=
  OpenClaim.holds_of_wide 4 Tryd.f4 rfl rfl rfl rfl rfl rfl rfl ⟨rfl, rfl, rfl, rfl, rfl⟩ rfl rfl rfl rfl rfl (by kernel_rfl) Tryd.func4 (by kernel_rfl)
    (of_decide_eq_true (by kernel_rfl)) (by unfold Func.isWrapper; first | (rw [if_pos (by decide +kernel)]; kernel_rfl) | (rw [if_neg (by decide +kernel)]; exact ⟨rfl, rfl⟩))
    (fun os started H enc _ => lifted os started H enc)
end cpuInstrs
/-- The given card. -/
theorem cpuInstrs_holds : Rows.CpuInstrsCardSaid :=
  Claim7.holds_tied_plain_at .later [] [.data] true Rows.cpuInstrsCard.stood.harness false cpuInstrs.over (fun _ h => by cases h) (by kernel_rfl) (fun _ h => by cases h) cpuInstrs_row_tie rfl ⟨rfl, rfl⟩ (by kernel_rfl) rfl
    (fun f fn hf hfn => by
      obtain rfl : f = 4 := Option.some.inj ((show Tryd.prog.funcNamed "carrel/carrellaw02.CpuInstrs" = some 4 by kernel_rfl).symm.trans hf) |>.symm
      obtain rfl : fn = Tryd.f4 := (Option.some.inj (Tryd.func4.symm.trans hfn)).symm
      exact ⟨by kernel_rfl, fun j t ht => by
        rw [Tryd.params4] at ht
        have hm : t ∈ [30] := by simpa using Array.mem_of_getElem? ht
        have hall : ([30].all fun u => !Tryd.prog.wantsStandIn u) = true := by kernel_rfl
        exact (show Tryd.prog.wantsStandIn t = false by simpa using List.all_eq_true.1 hall t hm)⟩)
    (by kernel_rfl)
#print axioms cpuInstrs_holds
end Go.Proofs.YtpiiidelmcnhnaaDoor
