/-
  Layer 6's add and addOperation, the program's: how the maps of names grow.
-/
import Derived.Test.YtmldlkcgaepaaaaGreatDoorMK3
import Derived.Test.YtmldlkcgaepaaaaGreatDoorMSh3
namespace Go.Proofs.YtmldlkcgaepaaaaGreatDoor
set_option linter.unusedVariables false
set_option linter.unusedSimpArgs false
open Go.ChangeShapes Go.WideShapes Go.ChangeAt Go.RowKit
attribute [local go_sem ↓] loadIn_seal storeIn_seal
attribute [local go_sem] loadIn_run storeIn_run rowAt_at rowAt_old rowAt_drew rowAt_drewN roomCpu_new roomIn_new roomAt_old roomAt_drew roomAt_drewN putCpu_new putIn_new Cp.zero_fold In.fold putRow_past rowCpu_put rowIn_put size_put putRow_drew putRow_drewN alloc_drewN setCell_drewN Cp.at16 Cp.at17 Cp.at18 Cp.at19 Cp.at20 Cp.at21 Cp.size Cp.set16 Cp.set17 Cp.set18 Cp.set19 Cp.set20 Cp.set21 In.at0 In.at1 In.at2 In.at3 In.at4 In.at5 In.at6 In.at7 In.size In.set0 In.set1 In.set2 In.set3 In.ne Cp.ne In.set4 In.set5 In.set6 In.set7

/-- The two maps of instructions, which lie apart. -/
structure Two (w : World) (b2 b3 : Nat) (g : Nm) : Prop where
  ne : b2 ≠ b3
  r : MapIs w b2 (g.r.map encN)
  n : MapIs w b3 (g.n.map encN)
  few : g.r.length + g.n.length ≤ 1000
/-- All that lay is as it was, but for these two maps. -/
structure Aside (b2 b3 : Nat) (w w' : World) : Prop where
  below : ∀ B, B ≤ b2 → B ≤ b3 → B ≤ w.heap.size → Below B w w'
  size : w.heap.size ≤ w'.heap.size
  kept : ∀ x, x < w.heap.size → x ≠ b2 → x ≠ b3 → w'.heap[x]? = w.heap[x]?
theorem Aside.trans {b2 b3 : Nat} {a b c : World} (h : Aside b2 b3 a b) (g : Aside b2 b3 b c) : Aside b2 b3 a c :=
  ⟨fun B h1 h2 h3 => (h.below B h1 h2 h3).trans ((g.below B h1 h2 (Nat.le_trans h3 h.size))), Nat.le_trans h.size g.size, fun x hx n2 n3 => (g.kept x (Nat.lt_of_lt_of_le hx h.size) n2 n3).trans (h.kept x hx n2 n3)⟩
theorem Aside.of {b2 b3 : Nat} {a b : World} (h : Below a.heap.size a b) : Aside b2 b3 a b := ⟨fun B _ _ h3 => h.mono h3, h.size, fun x hx _ _ => h.block x hx⟩
theorem Aside.refl (b2 b3 : Nat) (a : World) : Aside b2 b3 a a := .of (Below.refl _ _)
theorem Aside.grown {b2 b3 : Nat} {a b : World} {r : Nat} (h : a.grownBy b (some r)) (hr : r = b2 ∨ r = b3) : Aside b2 b3 a b :=
  ⟨fun B h1 h2 h3 => (Below.refl _ _).grown h h3 (fun j hj => by obtain rfl := Option.some.inj hj; omega), h.size, fun x hx n2 n3 => h.block x hx (fun e => by obtain rfl := Option.some.inj e; omega)⟩
theorem kinds_last (i : In) : ∃ h : (kindsP i).length - 1 < (kindsP i).length, (kindsP i).getLast? = some (kindsP i)[(kindsP i).length - 1] := by
  have : 0 < (kindsP i).length := by unfold kindsP lastP; repeat' split
                                     all_goals simp
  refine ⟨by omega, ?_⟩
  rw [List.getLast?_eq_getElem?, List.getElem?_eq_getElem]
theorem Two.drew {w : World} {b2 b3 : Nat} {g : Nm} (h : Two w b2 b3 g) : Two w.drew b2 b3 g := ⟨h.ne, h.r.drew, h.n.drew, h.few⟩
theorem Two.call {w w' : World} {b2 b3 : Nat} {g : Nm} (h : Two w b2 b3 g) (hb : Below w.heap.size w w') : Two w' b2 b3 g := ⟨h.ne, h.r.call hb, h.n.call hb, h.few⟩
set_option maxRecDepth 20000 in
set_option maxHeartbeats 2000000 in
theorem add_num (i : In) (hO : 0 ≤ i.O ∧ i.O < 16) (hk : numK i = true) {b0 b1 b2 b3 : Nat} {g : Nm} (w : World) (V : Vars w) (T : Two w b2 b3 g) (hf : g.r.length + g.n.length < 1000) :
    Calls Tryz.prog 40 #[.agg #[.map (some b0), .map (some b1), .map (some b2), .map (some b3)], .agg i.cells] w fun e w' => e = .returned (.tuple #[]) ∧ Two w' b2 b3 (addN g i) ∧ Aside b2 b3 w w' := by
  have KN := kinds_any i
  have HL := bs_size (kindsP i)
  obtain ⟨hlt, hla⟩ := kinds_last i
  have hch := bs_at (kindsP i) ((kindsP i).length - 1) (by rw [HL]; exact hlt) hlt
  have hkk : (kindsP i)[(kindsP i).length - 1] = 110 ∨ (kindsP i)[(kindsP i).length - 1] = 64 := by
    unfold numK at hk; rw [hla] at hk; simpa using hk
  have ha : addN g i = { g with n := (nameP i, i) :: g.n } := by simp [addN, hk]
  have hnz := name_size i
  have hm : (bs (nameP i)).size ≤ maxLen := by unfold maxLen; omega
  have NM := fun w V => name_any i w V hO.1 hO.2
  obtain ⟨N, hN⟩ : ∃ N, (kindsP i).length = N + 1 := ⟨(kindsP i).length - 1, by omega⟩
  rw [hN] at HL
  have hkb : ∀ h : N < (bs (kindsP i)).size, (bs (kindsP i))[N]'h = 110 ∨ (bs (kindsP i))[N]'h = 64 := fun h => by
    have e : (kindsP i).length - 1 = N := by omega
    simp only [e] at hch hkk
    rw [hch]; exact hkk
  rw [ha]
  have HT : Hid (Two w b2 b3 g) := T
  have HV : Hid (Vars w) := V
  have hN3 : N ≤ 2 := by have := (kinds_bd i).2; omega
  clear hla hch hkk hk T V ha hlt hN
  generalize bs (kindsP i) = ks at KN HL hkb
  have hlt : N < ks.size := by omega
  have hkc : ∃ c : UInt8, (ks[N]'hlt) = c ∧ (c = 110 ∨ c = 64) := ⟨_, rfl, hkb hlt⟩
  obtain ⟨c, hc, hc2⟩ := hkc
  clear hkb
  have hx : ((ks.size : Int) - 1) = N := by omega
  have hp : ∀ w1 : World, Below (w.heap.size + 1 + 1) ((w.alloc (.cells #[.map (some b0), .map (some b1), .map (some b2), .map (some b3)] 34)).alloc (.cells i.cells 52)) w1 → w1.cell? ⟨w.heap.size, 3, none⟩ = some (.map (some b3)) ∧ rowAt w1 (w.heap.size + 1) = some i.cells ∧ Vars w1 ∧ Two w1 b2 b3 g ∧ Below w.heap.size w w1 := fun w1 hb => by
    have B0 : Below w.heap.size w ((w.alloc (.cells #[.map (some b0), .map (some b1), .map (some b2), .map (some b3)] 34)).alloc (.cells i.cells 52)) := by go_grown
    have hb1 : Below w.heap.size w w1 := B0.trans (hb.mono (by omega))
    refine ⟨?_, ?_, HV.out.call hb1, HT.out.call hb1, hb1⟩
    · have r0 : rowAt w1 w.heap.size = some #[.map (some b0), .map (some b1), .map (some b2), .map (some b3)] := (rowAt_below hb _ (by omega)).trans ((rowAt_old _ _ _ (by simp)).trans (rowAt_new _ _ _ _))
      exact rowAt_cell r0 3
    · exact (rowAt_below hb _ (by omega)).trans (by have := rowAt_new (w.alloc (.cells #[.map (some b0), .map (some b1), .map (some b2), .map (some b3)] 34)) i.cells 52 (0, 0); simpa using this)
  have HP : Hid _ := hp
  clear hp
  rcases hc2 with rfl | rfl
  all_goals
    go_enter Tryz.func40, Tryz.ntmps40
    go_wp2_with (go_at_call 35; refine (KN _).mono ?_; rintro e w1 ⟨rfl, hb⟩; obtain ⟨a1, a2, a3, a4, a6⟩ := HP.out w1 (by simpa using hb))
    have A3 : Hid (Vars w1) := a3
    have A4 : Hid (Two w1 b2 b3 g) := a4
    have hb0 := hb.size
    simp at hb0
    clear a3 a4
    go_region_with (go_at_call 37; (refine (NM _ A3.out.drew).mono ?_; rintro e w3 ⟨rfl, hb3⟩; have a5 : rowAt w3 (w.heap.size + 1) = some i.cells := (rowAt_below hb3 _ (by show _ < w1.heap.size; omega)).trans a2; have a7 : w3.cell? ⟨w.heap.size, 3, none⟩ = some (.map (some b3)) := (hb3.cell (p := ⟨w.heap.size, 3, none⟩) (by show w.heap.size < w1.heap.size; omega)).trans a1; obtain ⟨w4, hrun, hM, hgr⟩ := MapIs.put (A4.out.drew.call hb3).n (by have := A4.out.few; simp; omega) Tryz.underlying32 (bs (nameP i)) hm (.agg i.cells)))
    all_goals
      simp only [Exit.inBlock]
      go_end0
      have T3 := A4.out.drew.call hb3
      refine ⟨rfl, ⟨T3.ne, T3.r.grown hgr (by simpa using T3.ne), ?_, ?_⟩, ((Aside.of a6).trans (Aside.of (below_drewN (Below.refl _ _) 1))).trans ((Aside.of hb3).trans (Aside.grown hgr (.inr rfl)))⟩
      · rw [bs_data] at hM; exact hM
      · simp; omega
theorem last_reg (i : In) (h : numK i = false) : (kindsP i).getLast? = some 67 ∨ (kindsP i).getLast? = some 65 := by
  revert h; unfold numK kindsP lastP; repeat' split
  all_goals decide
set_option maxRecDepth 20000 in
set_option maxHeartbeats 2000000 in
theorem add_reg (i : In) (hO : 0 ≤ i.O ∧ i.O < 16) (hk : numK i = false) {b0 b1 b2 b3 : Nat} {g : Nm} (w : World) (V : Vars w) (T : Two w b2 b3 g) (hf : g.r.length + g.n.length < 1000) :
    Calls Tryz.prog 40 #[.agg #[.map (some b0), .map (some b1), .map (some b2), .map (some b3)], .agg i.cells] w fun e w' => e = .returned (.tuple #[]) ∧ Two w' b2 b3 (addN g i) ∧ Aside b2 b3 w w' := by
  have KN := kinds_any i
  have HL := bs_size (kindsP i)
  obtain ⟨hlt, hla⟩ := kinds_last i
  have hch := bs_at (kindsP i) ((kindsP i).length - 1) (by rw [HL]; exact hlt) hlt
  have hkk : (kindsP i)[(kindsP i).length - 1] = 67 ∨ (kindsP i)[(kindsP i).length - 1] = 65 := by
    have := last_reg i hk; rw [hla] at this; simpa using this
  have ha : addN g i = { g with r := (nameP i, i) :: g.r } := by simp [addN, hk]
  have hnz := name_size i
  have hm : (bs (nameP i)).size ≤ maxLen := by unfold maxLen; omega
  have NM := fun w V => name_any i w V hO.1 hO.2
  obtain ⟨N, hN⟩ : ∃ N, (kindsP i).length = N + 1 := ⟨(kindsP i).length - 1, by omega⟩
  rw [hN] at HL
  have hkb : ∀ h : N < (bs (kindsP i)).size, (bs (kindsP i))[N]'h = 67 ∨ (bs (kindsP i))[N]'h = 65 := fun h => by
    have e : (kindsP i).length - 1 = N := by omega
    simp only [e] at hch hkk
    rw [hch]; exact hkk
  rw [ha]
  have HT : Hid (Two w b2 b3 g) := T
  have HV : Hid (Vars w) := V
  have hN3 : N ≤ 2 := by have := (kinds_bd i).2; omega
  clear hla hch hkk hk T V ha hlt hN
  generalize bs (kindsP i) = ks at KN HL hkb
  have hlt : N < ks.size := by omega
  have hkc : ∃ c : UInt8, (ks[N]'hlt) = c ∧ (c = 67 ∨ c = 65) := ⟨_, rfl, hkb hlt⟩
  obtain ⟨c, hc, hc2⟩ := hkc
  clear hkb
  have hx : ((ks.size : Int) - 1) = N := by omega
  have hp : ∀ w1 : World, Below (w.heap.size + 1 + 1) ((w.alloc (.cells #[.map (some b0), .map (some b1), .map (some b2), .map (some b3)] 34)).alloc (.cells i.cells 52)) w1 → w1.cell? ⟨w.heap.size, 2, none⟩ = some (.map (some b2)) ∧ rowAt w1 (w.heap.size + 1) = some i.cells ∧ Vars w1 ∧ Two w1 b2 b3 g ∧ Below w.heap.size w w1 := fun w1 hb => by
    have B0 : Below w.heap.size w ((w.alloc (.cells #[.map (some b0), .map (some b1), .map (some b2), .map (some b3)] 34)).alloc (.cells i.cells 52)) := by go_grown
    have hb1 : Below w.heap.size w w1 := B0.trans (hb.mono (by omega))
    refine ⟨?_, ?_, HV.out.call hb1, HT.out.call hb1, hb1⟩
    · have r0 : rowAt w1 w.heap.size = some #[.map (some b0), .map (some b1), .map (some b2), .map (some b3)] := (rowAt_below hb _ (by omega)).trans ((rowAt_old _ _ _ (by simp)).trans (rowAt_new _ _ _ _))
      exact rowAt_cell r0 2
    · exact (rowAt_below hb _ (by omega)).trans (by have := rowAt_new (w.alloc (.cells #[.map (some b0), .map (some b1), .map (some b2), .map (some b3)] 34)) i.cells 52 (0, 0); simpa using this)
  have HP : Hid _ := hp
  clear hp
  rcases hc2 with rfl | rfl
  all_goals
    go_enter Tryz.func40, Tryz.ntmps40
    go_wp2_with (go_at_call 35; refine (KN _).mono ?_; rintro e w1 ⟨rfl, hb⟩; obtain ⟨a1, a2, a3, a4, a6⟩ := HP.out w1 (by simpa using hb))
    have A3 : Hid (Vars w1) := a3
    have A4 : Hid (Two w1 b2 b3 g) := a4
    have hb0 := hb.size
    simp at hb0
    clear a3 a4
    go_region_with (go_at_call 37; (refine (NM _ A3.out.drew).mono ?_; rintro e w3 ⟨rfl, hb3⟩; have a5 : rowAt w3 (w.heap.size + 1) = some i.cells := (rowAt_below hb3 _ (by show _ < w1.heap.size; omega)).trans a2; have a7 : w3.cell? ⟨w.heap.size, 2, none⟩ = some (.map (some b2)) := (hb3.cell (p := ⟨w.heap.size, 2, none⟩) (by show w.heap.size < w1.heap.size; omega)).trans a1; obtain ⟨w4, hrun, hM, hgr⟩ := MapIs.put (A4.out.drew.call hb3).r (by have := A4.out.few; simp; omega) Tryz.underlying32 (bs (nameP i)) hm (.agg i.cells)))
    all_goals
      simp only [Exit.inBlock]
      go_end0
      have T3 := A4.out.drew.call hb3
      refine ⟨rfl, ⟨T3.ne, ?_, T3.n.grown hgr (by simpa using T3.ne.symm), ?_⟩, ((Aside.of a6).trans (Aside.of (below_drewN (Below.refl _ _) 1))).trans ((Aside.of hb3).trans (Aside.grown hgr (.inl rfl)))⟩
      · rw [bs_data] at hM; exact hM
      · simp; omega
theorem add_any (i : In) (hO : 0 ≤ i.O ∧ i.O < 16) {b0 b1 b2 b3 : Nat} {g : Nm} (w : World) (V : Vars w) (T : Two w b2 b3 g) (hf : g.r.length + g.n.length < 1000) :
    Calls Tryz.prog 40 #[.agg #[.map (some b0), .map (some b1), .map (some b2), .map (some b3)], .agg i.cells] w fun e w' => e = .returned (.tuple #[]) ∧ Two w' b2 b3 (addN g i) ∧ Aside b2 b3 w w' := by
  cases h : numK i
  · exact add_reg i hO h w V T hf
  · exact add_num i hO h w V T hf
end Go.Proofs.YtmldlkcgaepaaaaGreatDoor
