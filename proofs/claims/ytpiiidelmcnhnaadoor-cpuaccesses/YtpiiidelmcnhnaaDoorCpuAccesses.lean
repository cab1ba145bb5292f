/-
  The law on accesses: of any processor and any row of instructions, right or not, the program's Access answers as the document's; no condition but what the program's text lays into its table.
-/
import Derived.Test.YtpiiidelmcnhnaaDoorAccR
import Derived.Test.YtpiiidelmcnhnaaDoorCpuInstrs
namespace Go.Proofs.YtpiiidelmcnhnaaDoor
open Go.ChangeShapes Go.WideShapes Go.ChangeAt Go.RowKit
attribute [local go_sem ↓] loadCpu_seal storeCpu_seal loadIn_seal storeIn_seal
attribute [local go_sem] loadCpu_run storeCpu_run loadIn_run storeIn_run rowAt_at rowAt_past rowAt_drew rowAt_drewN roomCpu_new roomIn_new roomAt_old roomAt_drew roomAt_drewN putCpu_new putIn_new Cp.zero_fold In.fold putRow_past rowCpu_put rowIn_put size_put putRow_drew putRow_drewN alloc_drewN setCell_drewN Cp.at16 Cp.at17 Cp.at18 Cp.at19 Cp.at20 Cp.at21 Cp.size Cp.set16 Cp.set17 Cp.set18 Cp.set19 Cp.set20 Cp.set21 In.at0 In.at1 In.at2 In.at3 In.at4 In.at5 In.at6 In.at7 In.size In.set0 In.set1 In.set2 In.set3 In.ne Cp.ne In.set4 In.set5 In.set6 In.set7
attribute [local go_sem ↓] loadAc_seal storeAc_seal neqAc_seal
attribute [local go_sem] loadAc_run storeAc_run putAc_new roomAc_new rowAc_put Ac.at0 Ac.at1 Ac.at2 Ac.size Ac.set0 Ac.set1 Ac.set2 Ac.ne Ac.fold

def numOf : Option Value → Int
  | some (.int _ z) => z
  | _ => 0
section
variable {H : Type} {enc : TypeId × Value → H} {W : World} {base : Nat} {spare : Nat → Bool} {held : Bool}
theorem u32_at {n : Nat} {l : List Value} {k : Nat} {xs : List (DataW H × List MemPlace)} {i m : Nat} (hm : xs.length = m) (hi : i < m) (h : DataW.trod enc Tryd.prog W base spare held n 27 ((l.drop k).take (Tryd.prog.cellsOf 27)) = xs[i]?) :
    ∃ z, l[k]? = some (.int .u32 z) ∧ 0 ≤ z ∧ z ≤ 4294967295 := by
  obtain ⟨y, hy⟩ := some_of hm hi
  rw [hy, Tryd.cellsU] at h
  obtain ⟨z, e1, _, wf⟩ := DataW.trod_int Tryd.underlying27 h
  exact ⟨z, at_of e1, by simpa [Lit.wf, IntKind.min, IntKind.max, IntKind.signed, IntKind.bits] using wf⟩
theorem cpu_of_cells (cs : Array Value) (hs : cs.size = 22) (hR : ∀ i, i < 16 → ∃ z, cs[i]? = some (.int .u32 z) ∧ 0 ≤ z ∧ z ≤ 4294967295) (hH : ∃ z, cs[16]? = some (.int .u32 z) ∧ 0 ≤ z ∧ z ≤ 4294967295)
    (hN : ∃ z, cs[17]? = some (.bool z)) (hZ : ∃ z, cs[18]? = some (.bool z)) (hC : ∃ z, cs[19]? = some (.bool z)) (hV : ∃ z, cs[20]? = some (.bool z)) (hP : ∃ z, cs[21]? = some (.int .u32 z) ∧ 0 ≤ z ∧ z ≤ 4294967295) :
    ∃ c : Cp, c.Ok ∧ cs = c.cells := by
  obtain ⟨h, eh, h0⟩ := hH
  obtain ⟨n, en⟩ := hN
  obtain ⟨z, ez⟩ := hZ
  obtain ⟨c, ec⟩ := hC
  obtain ⟨v, ev⟩ := hV
  obtain ⟨p, ep, p0⟩ := hP
  refine ⟨{ R := fun i => numOf cs[i]?, H := h, N := n, Z := z, C := c, V := v, PC := p }, ⟨fun i hi => ?_, h0, p0⟩, ?_⟩
  · obtain ⟨x, ex, x0⟩ := hR i hi
    simp only [ex, numOf]; exact x0
  · apply Array.ext_getElem?
    intro i
    by_cases hi : i < 16
    · rw [Cp.atR _ _ hi]
      obtain ⟨x, ex, _⟩ := hR i hi
      simp [ex, numOf]
    · by_cases h2 : i < 22
      · have : i = 16 ∨ i = 17 ∨ i = 18 ∨ i = 19 ∨ i = 20 ∨ i = 21 := by omega
        rcases this with rfl | rfl | rfl | rfl | rfl | rfl
        · rw [eh]; rfl
        · rw [en]; rfl
        · rw [ez]; rfl
        · rw [ec]; rfl
        · rw [ev]; rfl
        · rw [ep]; rfl
      · rw [Array.getElem?_eq_none (by omega), Array.getElem?_eq_none (by rw [Cp.size]; omega)]
theorem open_cpu {r : Reach} {b0 : Nat} {v : Value} {d : DataW H} {p : List MemPlace} (hv : Value.okWide Tryd.prog W r b0 38 v) (h : DataW.Trod enc Tryd.prog W base spare held 38 v d p) : ∃ c : Cp, c.Ok ∧ v = .agg c.cells := by
  obtain ⟨cs, rfl, hsz⟩ := okWide_struct Tryd.underlying38 hv
  obtain ⟨fuel, hf⟩ := h
  obtain ⟨xs, n, _, _, hl, hlen, hfld⟩ := DataW.trod_struct Tryd.underlying38 hf
  have hlen7 : xs.length = 7 := hlen
  have hcs : (Value.agg cs).cells.toList = cs.toList := rfl
  rw [hcs] at hfld
  have g0 := hfld 0 _ rfl
  obtain ⟨y0, hy0⟩ := some_of hlen7 (i := 0) (by omega)
  rw [hy0] at g0
  obtain ⟨ys, m, _, _, _, hm, hel⟩ := DataW.trod_array Tryd.underlying36 g0
  have hR : ∀ i, i < 16 → ∃ z, cs[i]? = some (.int .u32 z) ∧ 0 ≤ z ∧ z ≤ 4294967295 := fun i hi => by
    obtain ⟨z, e, hz⟩ := u32_at hm hi (hel i hi)
    refine ⟨z, ?_, hz⟩
    rw [Tryd.cellsU] at e
    have e2 : ((cs.toList.drop 0).take (Tryd.prog.cellsOf 36))[i * 1]? = some (.int .u32 z) := e
    rw [Tryd.cellsA, List.drop_zero, List.getElem?_take, Nat.mul_one, if_pos hi] at e2
    simpa using e2
  have up : ∀ {k : Nat} {v : Value}, cs.toList[k]? = some v → cs[k]? = some v := fun h => by simpa using h
  obtain ⟨h, eh, h0⟩ := u32_at hlen7 (by omega) (hfld 1 _ rfl)
  obtain ⟨b1, e1⟩ := bool_at hlen7 (by omega) (hfld 2 _ rfl)
  obtain ⟨b2, e2⟩ := bool_at hlen7 (by omega) (hfld 3 _ rfl)
  obtain ⟨b3, e3⟩ := bool_at hlen7 (by omega) (hfld 4 _ rfl)
  obtain ⟨b4, e4⟩ := bool_at hlen7 (by omega) (hfld 5 _ rfl)
  obtain ⟨q, eq, q0⟩ := u32_at hlen7 (by omega) (hfld 6 _ rfl)
  obtain ⟨c, hc, rfl⟩ := cpu_of_cells cs (hsz.trans Tryd.cellsC) hR ⟨h, up eh, h0⟩ ⟨_, up e1⟩ ⟨_, up e2⟩ ⟨_, up e3⟩ ⟨_, up e4⟩ ⟨q, up eq, q0⟩
  exact ⟨c, hc, rfl⟩
end

def SA (w : World) (c : Cp) (b o : Nat) (g : In) (X : World) : Prop := Keeps w [(w.heap.size, c.cells)] X ∧ X.rangeAt b o g.cells.toList ∧ b < X.heap.size
theorem SA.full {w : World} {c : Cp} {b o : Nat} {g : In} {X : World} (h : SA w c b o g X) : SA w c b o g X ∧ rowAt X w.heap.size = some c.cells ∧ (loadIn ⟨b, o, none⟩).run Tryd.prog X = .ok (.agg g.cells) X :=
  ⟨h, h.1.row (by simp), loadIn_at g h.2.1⟩
theorem SA.drew {w : World} {c : Cp} {b o : Nat} {g : In} {X : World} (h : SA w c b o g X) : SA w c b o g X.drew := ⟨h.1.drew, h.2.1, h.2.2⟩
theorem SA.step {w : World} {c : Cp} {b o : Nat} {g : In} {X w1 : World} (hb : Below X.heap.size X w1) (h : SA w c b o g X ∧ rowAt X w.heap.size = some c.cells ∧ (loadIn ⟨b, o, none⟩).run Tryd.prog X = .ok (.agg g.cells) X) :
    SA w c b o g w1 ∧ rowAt w1 w.heap.size = some c.cells ∧ (loadIn ⟨b, o, none⟩).run Tryd.prog w1 = .ok (.agg g.cells) w1 :=
  SA.full ⟨h.1.1.call hb, range_below hb h.1.2.2 h.1.2.1, Nat.lt_of_lt_of_le h.1.2.2 hb.size⟩
namespace cpuAccesses
set_option maxHeartbeats 4000000 in
theorem walk (c : Cp) (a : Option Addr) (len cap : Nat) (g : Nat → In) (w : World) (hw : Ways w) (hc : c.Ok) (hr : RdI w a len g) : Calls Tryd.prog 6 #[.agg c.cells, .slice a len cap] w fun e w' => e = .returned (.bool true) ∧ Below w.heap.size w w' := by
  obtain ⟨hm, hr⟩ := hr
  unfold maxLen at hm
  have HW : Hid (Ways w) := hw
  have HO : Hid c.Ok := hc
  have HC : Hid (∀ k, k < len → ∃ b off, a = some ⟨b, off, none⟩ ∧ b < w.heap.size ∧ w.rangeAt b (off + k * 8) (g k).cells.toList) := by
    intro k hk
    rcases hr with h | ⟨b, off, rfl, hb, h⟩
    · omega
    · exact ⟨b, off, rfl, hb, h k hk⟩
  have K0 : Keeps w [(w.heap.size, c.cells)] (w.alloc (.cells c.cells 38)) := (Keeps.refl w).new c.cells 38
  have HK0 : Hid (Keeps w [(w.heap.size, c.cells)] (w.alloc (.cells c.cells 38))) := K0
  clear hr hw hc K0
  go_enter Tryd.func6, Tryd.ntmps6
  go_wp2
  go_loopw [5] (fun i X => ∃ k : Nat, k ≤ len ∧ i = .int .i64 k ∧ Keeps w [(w.heap.size, c.cells)] X) (fun i _ => len - (intOf i).toNat)
  case atStart => exact ⟨0, Nat.zero_le _, rfl, HK0.out⟩
  case round =>
    obtain ⟨k, hk, rfl, hX⟩ := hrel
    have HB : Hid (Keeps w [(w.heap.size, c.cells)] _) := hX
    by_cases hlt : k < len
    · obtain ⟨b, off, rfl, hbl, hrg⟩ := HC.out k hlt
      have H0 : Hid (SA w c b (off + k * 8) (g k) _) := ⟨hX, range_below hX.1 hbl hrg, Nat.lt_of_lt_of_le hbl hX.1.size⟩
      have hn := neqAc_same (accA c (g k))
      have i0 : (0 : Int) ≤ (k : Int) := by omega
      have i1 : (k : Int) < (len : Int) := by omega
      clear hX HC hrg hbl HK0
      go_wp2
      go_region_held3 (fun X => SA w c b (off + k * 8) (g k) X ∧ rowAt X w.heap.size = some c.cells ∧ (loadIn ⟨b, off + k * 8, none⟩).run Tryd.prog X = .ok (.agg (g k).cells) X) (first | exact SA.full (SA.drew H0.out) | exact SA.step (by assumption) (by assumption)) (first | (go_at_call 14; refine (access_any c (g k) _ (by first | exact HW.out.below (SA.drew H0.out).1.1 HW.out.big | exact HW.out.below (by assumption : SA w c b (off + k * 8) (g k) _ ∧ _).1.1.1 HW.out.big) HO.out).mono ?_; rintro e w1 ⟨rfl, hb⟩) | (go_at_call 15; refine (raccess_any c (g k) _ HO.out).mono ?_; rintro e w1 ⟨rfl, hb⟩))
      rename_i hh
      obtain ⟨hs, hr1, hr2⟩ := hh
      have HS : Hid (SA w c b (off + k * 8) (g k) _) := hs
      clear hs hr1 hr2 hb
      go_wp2
      go_roundw
      case rel => exact ⟨k + 1, by omega, by go_num, HS.out.1⟩
      case measure => simp [intOf]; omega
    · clear hX HC
      go_wp2_with (go_at_call 11; refine (shown_any _ (HW.out.below HB.out.1 HW.out.big)).mono ?_; rintro e w1 ⟨rfl, hb⟩)
      go_ret
      exact ⟨rfl, HB.out.1.trans (hb.mono HB.out.1.size)⟩
set_option maxRecDepth 100000 in
theorem lifted (os : Os) (started : os.Started) (H : Type) (enc : TypeId × Value → H) :
    ReturnsInHanded {} Tryd.checked os 6 .any (fun w args => (Rows.cpuAccessesSpec.pre enc Tryd.prog Tryd.f6 [] false w args ∧ laidMetH Tryd.prog [("carrel/cpu.ways", Rows.laid_carrel_cpu_ways)] w) ∧ sizedMet enc Tryd.prog Tryd.f6 (OpenSpec.ofChange Rows.cpuAccessesSpec) false w args)
      (Rows.cpuAccessesSpec.post enc Tryd.prog Tryd.f6 false true false false) := by
  refine returnsInHanded_of_change_and (C := Tryd.checked) (X := fun w _ => laidMetH Tryd.prog [("carrel/cpu.ways", Rows.laid_carrel_cpu_ways)] w) (fun _ _ _ hh h => h.of_heap hh) own started (by kernel_rfl) Tryd.func6
    (ChangeSpec.witness_shaped (enc := enc) (C := Tryd.checked) (os := os) (X := fun w _ => laidMetH Tryd.prog [("carrel/cpu.ways", Rows.laid_carrel_cpu_ways)] w) false (World.laidAll Tryd.prog os [("carrel/cpu.ways", Rows.laid_carrel_cpu_ways)]) #[.agg Cp.zero.cells, .slice none 0 0] 8 (World.laidAll_os _ _ _)
      (World.shaped_of_ZipB (by kernel_rfl) (by kernel_rfl)) (by kernel_rfl) (by kernel_rfl) (by kernel_rfl)
      (by rw [MakeChecks.laidMetH_plain _ _ _ (by kernel_rfl)]; exact laidMet_laidAll _ (by kernel_rfl) (by kernel_rfl))) ?_
  intro W base args ds gs before hval0 hW _ _ hL _
  have hval : ∀ (j : Nat) t v, Tryd.f6.params[j]? = some t → args[j]? = some v → Value.okWide Tryd.prog W .any base t v := hval0
  have hW' := hW
  obtain ⟨p, q, hA0, hV, rfl, _, _⟩ := hW
  have hA : DataW.TrodAll enc Tryd.prog W 0 (fun _ => true) true Tryd.f6.params.toList args.toList ds p := hA0
  rw [Tryd.params6] at hA hval
  obtain ⟨v0, vs0, d0, ds0, p0, q0, hargs, rfl, rfl, h0, r0⟩ := trodAll_cons hA
  obtain ⟨v1, vs1, d1, ds1, p1, q1, rfl, rfl, rfl, h1, r1⟩ := trodAll_cons r0
  obtain ⟨rfl, rfl, rfl⟩ := trodAll_nil r1
  obtain rfl : args = #[v0, v1] := by cases args; simp_all
  obtain ⟨rfl, rfl⟩ := trodVars_none hV
  have lt0 : ∀ x ∈ p0, x.block < W.heap.size := by obtain ⟨m, hm⟩ := h0; exact DataW.trod_lt m _ _ _ hm
  have lt1 : ∀ x ∈ p1, x.block < W.heap.size := by obtain ⟨m, hm⟩ := h1; exact DataW.trod_lt m _ _ _ hm
  obtain ⟨c, hc, rfl⟩ := open_cpu (hval 0 38 v0 rfl rfl) h0
  obtain ⟨a, len, cap, f, rfl, hf⟩ := open_instrs (hval 1 30 v1 rfl rfl) h1
  clear hA0 hval0
  simp only [List.append_nil] at hW'
  refine (walk c a len cap f W (ways_of_laid hL) hc hf).mono fun e W' ⟨he, hg⟩ => ?_
  subst he
  exact ⟨_, rfl, _, _, _, [], _, [], hW', trodAll_mk1 (shut_bool Tryd.underlying4 _), (trodAll_cons_mk (Below.trod laidOut (by kernel_rfl) (of_decide_eq_true (by kernel_rfl)) h0 hg lt0) (trodAll_cons_mk (Below.trod laidOut (by kernel_rfl) (of_decide_eq_true (by kernel_rfl)) h1 hg lt1) trodAll_mk0)), rfl, hg.frame _, fun h => by cases h⟩
theorem over : Rows.CpuAccessesSaid :=
  OpenClaim.holds_of_wide 6 Tryd.f6 rfl rfl rfl rfl rfl rfl rfl ⟨rfl, rfl, rfl, rfl, rfl⟩ rfl rfl rfl rfl rfl (by kernel_rfl) Tryd.func6 (by kernel_rfl)
    (of_decide_eq_true (by kernel_rfl)) (by unfold Func.isWrapper; first | (rw [if_pos (by decide +kernel)]; kernel_rfl) | (rw [if_neg (by decide +kernel)]; exact ⟨rfl, rfl⟩))
    (fun os started H enc _ => lifted os started H enc)
end cpuAccesses
/-- The given card. -/
theorem cpuAccesses_holds : Rows.CpuAccessesCardSaid :=
  Claim7.holds_tied_plain_at .later [] [.data] true Rows.cpuAccessesCard.stood.harness false cpuAccesses.over (fun _ h => by cases h) (by kernel_rfl) (fun _ h => by cases h) cpuAccesses_row_tie rfl ⟨rfl, rfl⟩ (by kernel_rfl) rfl
    (fun f fn hf hfn => by
      obtain rfl : f = 6 := Option.some.inj ((show Tryd.prog.funcNamed "carrel/carrellaw02.CpuAccesses" = some 6 by kernel_rfl).symm.trans hf) |>.symm
      obtain rfl : fn = Tryd.f6 := (Option.some.inj (Tryd.func6.symm.trans hfn)).symm
      exact ⟨by kernel_rfl, fun j t ht => by
        rw [Tryd.params6] at ht
        have hm : t ∈ [38, 30] := by simpa using Array.mem_of_getElem? ht
        have hall : ([38, 30].all fun u => !Tryd.prog.wantsStandIn u) = true := by kernel_rfl
        exact (show Tryd.prog.wantsStandIn t = false by simpa using List.all_eq_true.1 hall t hm)⟩)
    (by kernel_rfl)
#print axioms cpuAccesses_holds
end Go.Proofs.YtpiiidelmcnhnaaDoor
