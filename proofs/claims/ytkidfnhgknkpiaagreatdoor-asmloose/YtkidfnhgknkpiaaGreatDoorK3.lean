/-
  Layer 6's with and filled, the program's: an instruction with its operands, over the maps of names.
-/
import Derived.Test.YtkidfnhgknkpiaaGreatDoorK2
import Derived.Deep.LoopGhost
namespace Go.Proofs.YtkidfnhgknkpiaaGreatDoor
set_option linter.unusedVariables false
set_option linter.unusedSimpArgs false
open Go.ChangeShapes Go.WideShapes Go.ChangeAt Go.RowKit
attribute [local go_sem ↓] loadIn_seal storeIn_seal
attribute [local go_sem] loadIn_run storeIn_run rowAt_at rowAt_old rowAt_drew rowAt_drewN roomCpu_new roomIn_new roomAt_old roomAt_drew roomAt_drewN putCpu_new putIn_new Cp.zero_fold In.fold putRow_past rowCpu_put rowIn_put size_put putRow_drew putRow_drewN alloc_drewN setCell_drewN Cp.at16 Cp.at17 Cp.at18 Cp.at19 Cp.at20 Cp.at21 Cp.size Cp.set16 Cp.set17 Cp.set18 Cp.set19 Cp.set20 Cp.set21 In.at0 In.at1 In.at2 In.at3 In.at4 In.at5 In.at6 In.at7 In.size In.set0 In.set1 In.set2 In.set3 In.ne Cp.ne In.set4 In.set5 In.set6 In.set7

/-- What with answers beside its bool. -/
def withV (i : In) (k : UInt8) (s : Bs) (a : Int) : In :=
  if k = 65 then { i with A := (regOf s).getD 0 } else if k = 66 then { i with B := (regOf s).getD 0 } else if k = 67 then { i with C := (regOf s).getD 0 }
  else if k = 63 then { i with A := (condOf s).getD 0 } else if k = 64 then { i with N := wtoV s a } else if k = 110 then { i with N := numV s } else i
theorem withP_some {i i' : In} {k : UInt8} {s : Bs} {a : Int} (h : withP i k s a = some i') : withV i k s a = i' := by
  by_cases c1 : k = 65
  · subst c1; obtain ⟨n, hn, rfl⟩ := Option.map_eq_some_iff.1 (show (regOf s).map (fun n => { i with A := n }) = some i' from h); show ({ i with A := (regOf s).getD 0 } : In) = _; rw [hn]; rfl
  by_cases c2 : k = 66
  · subst c2; obtain ⟨n, hn, rfl⟩ := Option.map_eq_some_iff.1 (show (regOf s).map (fun n => { i with B := n }) = some i' from h); show ({ i with B := (regOf s).getD 0 } : In) = _; rw [hn]; rfl
  by_cases c3 : k = 67
  · subst c3; obtain ⟨n, hn, rfl⟩ := Option.map_eq_some_iff.1 (show (regOf s).map (fun n => { i with C := n }) = some i' from h); show ({ i with C := (regOf s).getD 0 } : In) = _; rw [hn]; rfl
  by_cases c4 : k = 63
  · subst c4; obtain ⟨n, hn, rfl⟩ := Option.map_eq_some_iff.1 (show (condOf s).map (fun n => { i with A := n }) = some i' from h); show ({ i with A := (condOf s).getD 0 } : In) = _; rw [hn]; rfl
  by_cases c5 : k = 64
  · subst c5; obtain ⟨n, hn, rfl⟩ := Option.map_eq_some_iff.1 (show (wordsTo s a).map (fun n => { i with N := n }) = some i' from h); show ({ i with N := wtoV s a } : In) = _; rw [wordsTo_some hn]
  by_cases c6 : k = 110
  · subst c6; obtain ⟨n, hn, rfl⟩ := Option.map_eq_some_iff.1 (show (numOf s).map (fun n => { i with N := n }) = some i' from h); show ({ i with N := numV s } : In) = _; rw [numOf_some hn]
  · simp [withP, c1, c2, c3, c4, c5, c6] at h
theorem getI (o : Option Int) : (o.map fun n => (.int .i64 n : Value)).getD (.int .i64 0) = .int .i64 (o.getD 0) := by cases o <;> rfl
theorem isI (o : Option Int) : (o.map fun n => (.int .i64 n : Value)).isSome = o.isSome := by cases o <;> rfl
def kindsAll : List UInt8 := [65, 66, 67, 63, 64, 110]
theorem row_set {w : World} {b n : Nat} {X : Array Value} (h : rowAt w b = some X) (hr : roomAt w b n = true) (j : Nat) (v : Value) (hj : j < n) : rowAt (w.setCell ⟨b, j, none⟩ v) b = some (X.setIfInBounds j v) ∧ roomAt (w.setCell ⟨b, j, none⟩ v) b n = true := by
  unfold roomAt at hr
  unfold rowAt at h
  split at hr
  case h_2 => cases hr
  rename_i cs t fr hb
  rw [hb] at h
  simp only [Option.some.injEq] at h
  subst h
  have hlt : b < w.heap.size := (Array.getElem?_eq_some_iff.1 hb).1
  have e : (w.setCell ⟨b, j, none⟩ v).heap[b]? = some (.cells (cs.setIfInBounds j v) t fr) := by
    simp only [World.setCell, Array.getElem?_modify, if_true, hb, Option.map_some]; simp
  simp only [rowAt, roomAt, e]
  exact ⟨trivial, by simpa using hr⟩
theorem far_set {w : World} {b b' : Nat} (j : Nat) (v : Value) (hb : b' ≠ b) : rowAt (w.setCell ⟨b, j, none⟩ v) b' = rowAt w b' ∧ ∀ n, roomAt (w.setCell ⟨b, j, none⟩ v) b' n = roomAt w b' n := by
  have e : (w.setCell ⟨b, j, none⟩ v).heap[b']? = w.heap[b']? := Below.heap_setCell _ _ _ _ hb
  simp only [rowAt, roomAt, e]
  exact ⟨trivial, fun _ => trivial⟩
theorem row_free {w : World} {b n : Nat} (hr : roomAt w b n = true) (j : Nat) : w.frozen? ⟨b, j, none⟩ = false := by
  unfold roomAt at hr
  split at hr
  case h_2 => cases hr
  rename_i cs t fr hb
  simp only [Bool.and_eq_true, beq_iff_eq] at hr
  simp [World.frozen?, hb, hr.2]
theorem with_A (i : In) (s : ByteArray) (a : Int) (hs : s.size ≤ 1000000) {b0 b1 b2 b3 : Nat} (w : World) (K : Known w b0 b1 b2 b3) :
    Calls Tryz.prog 94 #[.agg #[.map (some b0), .map (some b1), .map (some b2), .map (some b3)], .agg i.cells, .int .i32 65, .string s, .int .u32 a] w fun e w' => e = .returned (.tuple #[.agg ({ i with A := (regOf s.data.toList).getD 0 } : In).cells, .bool (regOf s.data.toList).isSome]) ∧ Below w.heap.size w w' := by
  have lr := look_encI (regL 16) s.data.toList
  have l1 := getI (regOf s.data.toList)
  have l2 := isI (regOf s.data.toList)
  have HK : Hid (Known w b0 b1 b2 b3) := K
  have m2 : s.size ≤ maxLen := by unfold maxLen; omega
  clear K
  unfold regOf at l1 l2 ⊢
  rw [← lr] at l1 l2
  generalize (look (regL 16) s.data.toList).getD 0 = X at l1 ⊢
  generalize (look (regL 16) s.data.toList).isSome = Y at l2 ⊢
  go_enter Tryz.func94, Tryz.ntmps94
  go_wp2_with (at_lookup; refine wpList_look rfl _ _ 54 rfl 3 Tryz.underlying54 (zero3 _) b0 _ rfl (((HK.out.alloc _).alloc _).alloc _).r s rfl m2 (.int .i64 X) Y l1 l2 ?_)
  refine ret_cell_tmp rfl rfl (loadIn_row (c := { i with A := X }) ?_) rfl ⟨rfl, ?_⟩
  · simp [go_sem]
  · go_grown
theorem with_B (i : In) (s : ByteArray) (a : Int) (hs : s.size ≤ 1000000) {b0 b1 b2 b3 : Nat} (w : World) (K : Known w b0 b1 b2 b3) :
    Calls Tryz.prog 94 #[.agg #[.map (some b0), .map (some b1), .map (some b2), .map (some b3)], .agg i.cells, .int .i32 66, .string s, .int .u32 a] w fun e w' => e = .returned (.tuple #[.agg ({ i with B := (regOf s.data.toList).getD 0 } : In).cells, .bool (regOf s.data.toList).isSome]) ∧ Below w.heap.size w w' := by
  have lr := look_encI (regL 16) s.data.toList
  have l1 := getI (regOf s.data.toList)
  have l2 := isI (regOf s.data.toList)
  have HK : Hid (Known w b0 b1 b2 b3) := K
  have m2 : s.size ≤ maxLen := by unfold maxLen; omega
  clear K
  unfold regOf at l1 l2 ⊢
  rw [← lr] at l1 l2
  generalize (look (regL 16) s.data.toList).getD 0 = X at l1 ⊢
  generalize (look (regL 16) s.data.toList).isSome = Y at l2 ⊢
  go_enter Tryz.func94, Tryz.ntmps94
  go_wp2_with (at_lookup; refine wpList_look rfl _ _ 54 rfl 3 Tryz.underlying54 (zero3 _) b0 _ rfl (((HK.out.alloc _).alloc _).alloc _).r s rfl m2 (.int .i64 X) Y l1 l2 ?_)
  refine ret_cell_tmp rfl rfl (loadIn_row (c := { i with B := X }) ?_) rfl ⟨rfl, ?_⟩
  · simp [go_sem]
  · go_grown
theorem with_C (i : In) (s : ByteArray) (a : Int) (hs : s.size ≤ 1000000) {b0 b1 b2 b3 : Nat} (w : World) (K : Known w b0 b1 b2 b3) :
    Calls Tryz.prog 94 #[.agg #[.map (some b0), .map (some b1), .map (some b2), .map (some b3)], .agg i.cells, .int .i32 67, .string s, .int .u32 a] w fun e w' => e = .returned (.tuple #[.agg ({ i with C := (regOf s.data.toList).getD 0 } : In).cells, .bool (regOf s.data.toList).isSome]) ∧ Below w.heap.size w w' := by
  have lr := look_encI (regL 16) s.data.toList
  have l1 := getI (regOf s.data.toList)
  have l2 := isI (regOf s.data.toList)
  have HK : Hid (Known w b0 b1 b2 b3) := K
  have m2 : s.size ≤ maxLen := by unfold maxLen; omega
  clear K
  unfold regOf at l1 l2 ⊢
  rw [← lr] at l1 l2
  generalize (look (regL 16) s.data.toList).getD 0 = X at l1 ⊢
  generalize (look (regL 16) s.data.toList).isSome = Y at l2 ⊢
  go_enter Tryz.func94, Tryz.ntmps94
  go_wp2_with (at_lookup; refine wpList_look rfl _ _ 54 rfl 3 Tryz.underlying54 (zero3 _) b0 _ rfl (((HK.out.alloc _).alloc _).alloc _).r s rfl m2 (.int .i64 X) Y l1 l2 ?_)
  refine ret_cell_tmp rfl rfl (loadIn_row (c := { i with C := X }) ?_) rfl ⟨rfl, ?_⟩
  · simp [go_sem]
  · go_grown
theorem with_Q (i : In) (s : ByteArray) (a : Int) (hs : s.size ≤ 1000000) {b0 b1 b2 b3 : Nat} (w : World) (K : Known w b0 b1 b2 b3) :
    Calls Tryz.prog 94 #[.agg #[.map (some b0), .map (some b1), .map (some b2), .map (some b3)], .agg i.cells, .int .i32 63, .string s, .int .u32 a] w fun e w' => e = .returned (.tuple #[.agg ({ i with A := (condOf s.data.toList).getD 0 } : In).cells, .bool (condOf s.data.toList).isSome]) ∧ Below w.heap.size w w' := by
  have lr := look_encI (condL 16) s.data.toList
  have l1 := getI (condOf s.data.toList)
  have l2 := isI (condOf s.data.toList)
  have HK : Hid (Known w b0 b1 b2 b3) := K
  have m2 : s.size ≤ maxLen := by unfold maxLen; omega
  clear K
  unfold condOf at l1 l2 ⊢
  rw [← lr] at l1 l2
  generalize (look (condL 16) s.data.toList).getD 0 = X at l1 ⊢
  generalize (look (condL 16) s.data.toList).isSome = Y at l2 ⊢
  go_enter Tryz.func94, Tryz.ntmps94
  go_wp2_with (at_lookup; refine wpList_look rfl _ _ 54 rfl 3 Tryz.underlying54 (zero3 _) b1 _ rfl (((HK.out.alloc _).alloc _).alloc _).c s rfl m2 (.int .i64 X) Y l1 l2 ?_)
  refine ret_cell_tmp rfl rfl (loadIn_row (c := { i with A := X }) ?_) rfl ⟨rfl, ?_⟩
  · simp [go_sem]
  · go_grown
theorem with_T (i : In) (s : ByteArray) (a : Int) (hs : s.size ≤ 1000000) {b0 b1 b2 b3 : Nat} (w : World) (V : Vars w) :
    Calls Tryz.prog 94 #[.agg #[.map (some b0), .map (some b1), .map (some b2), .map (some b3)], .agg i.cells, .int .i32 64, .string s, .int .u32 a] w fun e w' => e = .returned (.tuple #[.agg ({ i with N := wtoV s.data.toList a } : In).cells, .bool (wordsTo s.data.toList a).isSome]) ∧ Below w.heap.size w w' := by
  have hT := wordsTo_any s a hs _ (((V.alloc (.cells #[.map (some b0), .map (some b1), .map (some b2), .map (some b3)] 57)).alloc (.cells i.cells 42)).alloc (.cells zeroIn.cells 42))
  generalize wtoV s.data.toList a = X at hT ⊢
  generalize (wordsTo s.data.toList a).isSome = Y at hT ⊢
  clear V
  go_enter Tryz.func94, Tryz.ntmps94
  go_wp2_with (go_at_call 121; refine hT.mono ?_; rintro e w1 ⟨rfl, hb⟩; have hs1 := hb.size; simp at hs1; have q0 : rowAt w1 (w.heap.size + 1) = some i.cells := (rowAt_below hb _ (by simp)).trans (by simp [go_sem]); have p0 : roomAt w1 (w.heap.size + 1) 8 = true := (roomAt_below hb _ _ (by simp)).trans (by simp [go_sem]); have p2 : roomAt w1 (w.heap.size + 2) 8 = true := (roomAt_below hb _ _ (by simp)).trans (roomIn_new _ _ _ _ (by simp)); have q2 := rowAt_cell q0; have q3 := row_free p0; obtain ⟨q4, q4r⟩ := row_set q0 p0 7 (.int .i64 X) (by omega); have q5 := (far_set (w := w1) (b := w.heap.size + 1) (b' := w.heap.size + 2) 7 (.int .i64 X) (by omega)).2 8; rw [p2] at q5)
  refine ret_cell_tmp rfl rfl (loadIn_row (c := { i with N := X }) (rowIn_put _ _ _ q5)) rfl ⟨rfl, below_put ?_ _ (by omega) _⟩
  have B0 : Below w.heap.size w (((w.alloc (.cells #[.map (some b0), .map (some b1), .map (some b2), .map (some b3)] 57)).alloc (.cells i.cells 42)).alloc (.cells zeroIn.cells 42)) := by go_grown
  exact (B0.trans (hb.mono (by simp; omega))).setCell (by show w.heap.size ≤ w.heap.size + 1; omega) _
theorem with_N (i : In) (s : ByteArray) (a : Int) (hs : s.size ≤ 1000000) {b0 b1 b2 b3 : Nat} (w : World) (V : Vars w) :
    Calls Tryz.prog 94 #[.agg #[.map (some b0), .map (some b1), .map (some b2), .map (some b3)], .agg i.cells, .int .i32 110, .string s, .int .u32 a] w fun e w' => e = .returned (.tuple #[.agg ({ i with N := numV s.data.toList } : In).cells, .bool (numOf s.data.toList).isSome]) ∧ Below w.heap.size w w' := by
  have hT := number_any s hs _ (((V.alloc (.cells #[.map (some b0), .map (some b1), .map (some b2), .map (some b3)] 57)).alloc (.cells i.cells 42)).alloc (.cells zeroIn.cells 42))
  generalize numV s.data.toList = X at hT ⊢
  generalize (numOf s.data.toList).isSome = Y at hT ⊢
  clear V
  go_enter Tryz.func94, Tryz.ntmps94
  go_wp2_with (go_at_call 122; refine hT.mono ?_; rintro e w1 ⟨rfl, hb⟩; have hs1 := hb.size; simp at hs1; have q0 : rowAt w1 (w.heap.size + 1) = some i.cells := (rowAt_below hb _ (by simp)).trans (by simp [go_sem]); have p0 : roomAt w1 (w.heap.size + 1) 8 = true := (roomAt_below hb _ _ (by simp)).trans (by simp [go_sem]); have p2 : roomAt w1 (w.heap.size + 2) 8 = true := (roomAt_below hb _ _ (by simp)).trans (roomIn_new _ _ _ _ (by simp)); have q2 := rowAt_cell q0; have q3 := row_free p0; obtain ⟨q4, q4r⟩ := row_set q0 p0 7 (.int .i64 X) (by omega); have q5 := (far_set (w := w1) (b := w.heap.size + 1) (b' := w.heap.size + 2) 7 (.int .i64 X) (by omega)).2 8; rw [p2] at q5)
  refine ret_cell_tmp rfl rfl (loadIn_row (c := { i with N := X }) (rowIn_put _ _ _ q5)) rfl ⟨rfl, below_put ?_ _ (by omega) _⟩
  have B0 : Below w.heap.size w (((w.alloc (.cells #[.map (some b0), .map (some b1), .map (some b2), .map (some b3)] 57)).alloc (.cells i.cells 42)).alloc (.cells zeroIn.cells 42)) := by go_grown
  exact (B0.trans (hb.mono (by simp; omega))).setCell (by show w.heap.size ≤ w.heap.size + 1; omega) _
theorem with_any (i : In) (k : UInt8) (hk : k ∈ kindsAll) (s : ByteArray) (a : Int) (hs : s.size ≤ 1000000) {b0 b1 b2 b3 : Nat} (w : World) (K : Known w b0 b1 b2 b3) (V : Vars w) :
    Calls Tryz.prog 94 #[.agg #[.map (some b0), .map (some b1), .map (some b2), .map (some b3)], .agg i.cells, .int .i32 k.toNat, .string s, .int .u32 a] w fun e w' => e = .returned (.tuple #[.agg (withV i k s.data.toList a).cells, .bool (withP i k s.data.toList a).isSome]) ∧ Below w.heap.size w w' := by
  simp only [kindsAll, List.mem_cons, List.not_mem_nil, or_false] at hk
  rcases hk with rfl | rfl | rfl | rfl | rfl | rfl
  · have := with_A i s a hs w K
    simpa [withP, withV] using this
  · have := with_B i s a hs w K
    simpa [withP, withV] using this
  · have := with_C i s a hs w K
    simpa [withP, withV] using this
  · have := with_Q i s a hs w K
    simpa [withP, withV] using this
  · have := with_T (b0 := b0) (b1 := b1) (b2 := b2) (b3 := b3) i s a hs w V
    simpa [withP, withV] using this
  · have := with_N (b0 := b0) (b1 := b1) (b2 := b2) (b3 := b3) i s a hs w V
    simpa [withP, withV] using this
end Go.Proofs.YtkidfnhgknkpiaaGreatDoor
