/-
  The law on words: every word is decoded by the program as by the document, whatever the row of words; no condition but what the program's text lays into its table.
-/
import Derived.Test.YtpiiidelmcnhnaaDoorDecR
import Derived.Test.YtpiiidelmcnhnaaDoorBack
import Derived.Test.YtpiiidelmcnhnaaDoorTie
import Derived.Test.YtpiiidelmcnhnaaDoorCards
import Derived.Lay
import Derived.SevenTiedAt
import Derived.JoinedOf
import Derived.ChangeSame
namespace Go.Proofs.YtpiiidelmcnhnaaDoor
open Go.ChangeShapes Go.WideShapes Go.ChangeAt Go.RowKit
attribute [local go_sem ↓] loadCpu_seal storeCpu_seal loadIn_seal storeIn_seal
attribute [local go_sem] loadCpu_run storeCpu_run loadIn_run storeIn_run rowAt_at rowAt_past rowAt_drew rowAt_drewN roomCpu_new roomIn_new roomAt_old roomAt_drew roomAt_drewN putCpu_new putIn_new Cp.zero_fold In.fold putRow_past rowCpu_put rowIn_put size_put putRow_drew putRow_drewN alloc_drewN setCell_drewN Cp.at16 Cp.at17 Cp.at18 Cp.at19 Cp.at20 Cp.at21 Cp.size Cp.set16 Cp.set17 Cp.set18 Cp.set19 Cp.set20 Cp.set21 In.at0 In.at1 In.at2 In.at3 In.at4 In.at5 In.at6 In.at7 In.size In.set0 In.set1 In.set2 In.set3 In.ne Cp.ne In.set4 In.set5 In.set6 In.set7
attribute [local go_sem ↓] eqlIn_seal neqIn_seal

def RdU (w : World) (a : Option Addr) (len : Nat) (f : Nat → Int) : Prop :=
  len ≤ maxLen ∧ (len = 0 ∨ ∃ b off, a = some ⟨b, off, none⟩ ∧ ∀ i, i < len → w.cell? ⟨b, off + i, none⟩ = some (.int .u32 (f i)) ∧ 0 ≤ f i ∧ f i ≤ 4294967295)
theorem open_words {H : Type} {enc : TypeId × Value → H} {W : World} {base : Nat} {r : Reach} {b0 : Nat} {v : Value} {d : DataW H} {p : List MemPlace} (hv : Value.okWide Tryd.prog W r b0 22 v) (h : DataW.Trod enc Tryd.prog W base (fun _ => true) true 22 v d p) :
    ∃ a len cap f, v = .slice a len cap ∧ RdU W a len f := by
  obtain ⟨a0, len0, cap0, rfl⟩ := okWide_slice Tryd.underlying22 hv
  obtain ⟨fuel, hf⟩ := h
  rcases open_ints Tryd.underlying22 Tryd.underlying27 Tryd.cellsU hf with ⟨hcs, _⟩ | ⟨x, l, c, zs, hcs, _, hl, hm, hz, hx, hcell, hwz⟩
  · simp [Value.cells] at hcs
    obtain ⟨rfl, rfl, rfl⟩ := hcs
    exact ⟨none, 0, 0, fun _ => 0, rfl, by unfold maxLen; omega, .inl rfl⟩
  · simp [Value.cells] at hcs
    obtain ⟨rfl, rfl, rfl⟩ := hcs
    have hz' : zs.length = cap0 := by simpa using hz
    refine ⟨_, len0, cap0, fun i => zs.getD i 0, rfl, by omega, ?_⟩
    by_cases h0 : len0 = 0
    · exact .inl h0
    · obtain ⟨b, off, rfl, hc⟩ := ints_at hcell (by omega)
      refine .inr ⟨b, off, rfl, fun i hi => ⟨hc i (by omega), ?_⟩⟩
      have hmem : zs.getD i 0 ∈ zs := by
        rw [List.getD, List.getElem?_eq_getElem (by omega)]; exact List.getElem_mem _
      simpa [Lit.wf, IntKind.min, IntKind.max, IntKind.signed, IntKind.bits] using hwz _ hmem
namespace cpuWords
set_option maxHeartbeats 4000000 in
theorem walk (a : Option Addr) (len cap : Nat) (f : Nat → Int) (w : World) (hw : Ways w) (hr : RdU w a len f) : Calls Tryd.prog 3 #[.slice a len cap] w fun e w' => e = .returned (.bool true) ∧ Below w.heap.size w w' := by
  obtain ⟨hm, hr⟩ := hr
  unfold maxLen at hm
  have HW : Hid (Ways w) := hw
  have HC : Hid (∀ k, k < len → ∃ b off, a = some ⟨b, off, none⟩ ∧ w.cell? ⟨b, off + k, none⟩ = some (.int .u32 (f k)) ∧ 0 ≤ f k ∧ f k ≤ 4294967295) := by
    intro k hk
    rcases hr with h | ⟨b, off, rfl, h⟩
    · omega
    · exact ⟨b, off, rfl, h k hk⟩
  clear hr hw
  go_enter Tryd.func3, Tryd.ntmps3
  go_wp2
  go_loopw [3] (fun i X => ∃ k : Nat, k ≤ len ∧ i = .int .i64 k ∧ Below w.heap.size w X) (fun i _ => len - (intOf i).toNat)
  case atStart => exact ⟨0, Nat.zero_le _, rfl, Below.refl _ _⟩
  case round =>
    obtain ⟨k, hk, rfl, hX⟩ := hrel
    have HB : Hid (Below w.heap.size w _) := hX
    by_cases hlt : k < len
    · obtain ⟨b, off, rfl, hcell, x0, x1⟩ := HC.out k hlt
      have hbl : b < w.heap.size := World.block_lt_of_cell? w _ hcell
      have hsz := hX.size
      have c0 := (hX.cell (p := ⟨b, off + k, none⟩) hbl).trans hcell
      have l0 : b < _ := Nat.lt_of_lt_of_le hbl hsz
      have hn := neqIn_same (decI (f k))
      clear hX HC
      go_wp2_with (first | (go_at_call 9; refine (decode_any _ _ (HW.out.below HB.out HW.out.big) x0 x1).mono ?_; rintro e w1 ⟨rfl, hb⟩; have HB1 : Hid (Below w.heap.size w w1) := HB.out.trans (hb.mono HB.out.size); have c1 := (hb.cell (p := ⟨b, off + k, none⟩) l0).trans c0; have l1 : b < w1.heap.size := Nat.lt_of_lt_of_le l0 hb.size) | (go_at_call 10; refine (rdecode_any _ _ x0 x1).mono ?_; rintro e w2 ⟨rfl, hb2⟩; have HB2 : Hid (Below w.heap.size w w2) := (HB1.out.alloc HB1.out.size _).trans (hb2.mono (by have := HB1.out.size; simp; omega)); have k2 : rowAt w2 w1.heap.size = some (decI (f k)).cells := (rowAt_below hb2 _ (by simp)).trans (rowAt_new _ _ _ _); have l2 : w1.heap.size < w2.heap.size := by have := hb2.size; simp at this; omega))
      go_roundw
      case rel => exact ⟨k + 1, by omega, by go_num, HB2.out.alloc HB2.out.size _⟩
      case measure => simp [intOf]; omega
    · clear hX HC
      go_wp2_with (go_at_call 11; refine (shown_any _ (HW.out.below HB.out HW.out.big)).mono ?_; rintro e w1 ⟨rfl, hb⟩)
      go_ret
      exact ⟨rfl, HB.out.trans (hb.mono HB.out.size)⟩
set_option maxRecDepth 100000 in
theorem lifted (os : Os) (started : os.Started) (H : Type) (enc : TypeId × Value → H) :
    ReturnsInHanded {} Tryd.checked os 3 .any (fun w args => (Rows.cpuWordsSpec.pre enc Tryd.prog Tryd.f3 [] false w args ∧ laidMetH Tryd.prog [("carrel/cpu.ways", Rows.laid_carrel_cpu_ways)] w) ∧ sizedMet enc Tryd.prog Tryd.f3 (OpenSpec.ofChange Rows.cpuWordsSpec) false w args)
      (Rows.cpuWordsSpec.post enc Tryd.prog Tryd.f3 false true false false) := by
  refine returnsInHanded_of_change_and (C := Tryd.checked) (X := fun w _ => laidMetH Tryd.prog [("carrel/cpu.ways", Rows.laid_carrel_cpu_ways)] w) (fun _ _ _ hh h => h.of_heap hh) own started (by kernel_rfl) Tryd.func3
    (ChangeSpec.witness_shaped (enc := enc) (C := Tryd.checked) (os := os) (X := fun w _ => laidMetH Tryd.prog [("carrel/cpu.ways", Rows.laid_carrel_cpu_ways)] w) false (World.laidAll Tryd.prog os [("carrel/cpu.ways", Rows.laid_carrel_cpu_ways)]) #[.slice none 0 0] 8 (World.laidAll_os _ _ _)
      (World.shaped_of_ZipB (by kernel_rfl) (by kernel_rfl)) (by kernel_rfl) (by kernel_rfl) (by kernel_rfl)
      (by rw [MakeChecks.laidMetH_plain _ _ _ (by kernel_rfl)]; exact laidMet_laidAll _ (by kernel_rfl) (by kernel_rfl))) ?_
  intro W base args ds gs before hval0 hW _ _ hL _
  have hval : ∀ (j : Nat) t v, Tryd.f3.params[j]? = some t → args[j]? = some v → Value.okWide Tryd.prog W .any base t v := hval0
  have hW' := hW
  obtain ⟨p, q, hA0, hV, rfl, _, _⟩ := hW
  have hA : DataW.TrodAll enc Tryd.prog W 0 (fun _ => true) true Tryd.f3.params.toList args.toList ds p := hA0
  rw [Tryd.params3] at hA hval
  obtain ⟨v0, vs0, d0, ds0, p0, q0, hargs, rfl, rfl, h0, r0⟩ := trodAll_cons hA
  obtain ⟨rfl, rfl, rfl⟩ := trodAll_nil r0
  obtain rfl : args = #[v0] := by cases args; simp_all
  obtain ⟨rfl, rfl⟩ := trodVars_none hV
  have lt0 : ∀ x ∈ p0, x.block < W.heap.size := by obtain ⟨m, hm⟩ := h0; exact DataW.trod_lt m _ _ _ hm
  obtain ⟨a, len, cap, f, rfl, hf⟩ := open_words (hval 0 22 v0 rfl rfl) h0
  clear hA0 hval0
  simp only [List.append_nil] at hW'
  refine (walk a len cap f W (ways_of_laid hL) hf).mono fun e W' ⟨he, hg⟩ => ?_
  subst he
  exact ⟨_, rfl, _, _, _, [], _, [], hW', trodAll_mk1 (shut_bool Tryd.underlying4 _), (trodAll_cons_mk (Below.trod laidOut (by kernel_rfl) (of_decide_eq_true (by kernel_rfl)) h0 hg lt0) trodAll_mk0), rfl, hg.frame _, fun h => by cases h⟩
theorem over : Rows.CpuWordsSaid :=
  OpenClaim.holds_of_wide 3 Tryd.f3 rfl rfl rfl rfl rfl rfl rfl ⟨rfl, rfl, rfl, rfl, rfl⟩ rfl rfl rfl rfl rfl (by kernel_rfl) Tryd.func3 (by kernel_rfl)
    (of_decide_eq_true (by kernel_rfl)) (by unfold Func.isWrapper; first | (rw [if_pos (by decide +kernel)]; kernel_rfl) | (rw [if_neg (by decide +kernel)]; exact ⟨rfl, rfl⟩))
    (fun os started H enc _ => lifted os started H enc)
end cpuWords
/-- The given card. -/
theorem cpuWords_holds : Rows.CpuWordsCardSaid :=
  Claim7.holds_tied_plain_at .later [] [.data] true Rows.cpuWordsCard.stood.harness false cpuWords.over (fun _ h => by cases h) (by kernel_rfl) (fun _ h => by cases h) cpuWords_row_tie rfl ⟨rfl, rfl⟩ (by kernel_rfl) rfl
    (fun f fn hf hfn => by
      obtain rfl : f = 3 := Option.some.inj ((show Tryd.prog.funcNamed "carrel/carrellaw02.CpuWords" = some 3 by kernel_rfl).symm.trans hf) |>.symm
      obtain rfl : fn = Tryd.f3 := (Option.some.inj (Tryd.func3.symm.trans hfn)).symm
      exact ⟨by kernel_rfl, fun j t ht => by
        rw [Tryd.params3] at ht
        have hm : t ∈ [22] := by simpa using Array.mem_of_getElem? ht
        have hall : ([22].all fun u => !Tryd.prog.wantsStandIn u) = true := by kernel_rfl
        exact (show Tryd.prog.wantsStandIn t = false by simpa using List.all_eq_true.1 hall t hm)⟩)
    (by kernel_rfl)
#print axioms cpuWords_holds
end Go.Proofs.YtpiiidelmcnhnaaDoor
