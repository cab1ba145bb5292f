/-
  Layer 6's allNames, the program's: the maps of all names.
-/
import Derived.Test.YtmldlkcgaepaaaaGreatDoorMN2
namespace Go.Proofs.YtmldlkcgaepaaaaGreatDoor
set_option linter.unusedVariables false
set_option linter.unusedSimpArgs false
open Go.ChangeShapes Go.WideShapes Go.ChangeAt Go.RowKit
attribute [local go_sem ↓] loadIn_seal storeIn_seal
attribute [local go_sem] loadIn_run storeIn_run rowAt_at rowAt_old rowAt_drew rowAt_drewN roomCpu_new roomIn_new roomAt_old roomAt_drew roomAt_drewN putCpu_new putIn_new Cp.zero_fold In.fold putRow_past rowCpu_put rowIn_put size_put putRow_drew putRow_drewN alloc_drewN setCell_drewN Cp.at16 Cp.at17 Cp.at18 Cp.at19 Cp.at20 Cp.at21 Cp.size Cp.set16 Cp.set17 Cp.set18 Cp.set19 Cp.set20 Cp.set21 In.at0 In.at1 In.at2 In.at3 In.at4 In.at5 In.at6 In.at7 In.size In.set0 In.set1 In.set2 In.set3 In.ne Cp.ne In.set4 In.set5 In.set6 In.set7

def knC (n : Nat) : Array Value := #[.map (some (n + 1)), .map (some (n + 2)), .map (some (n + 3)), .map (some (n + 4))]
/-- How it lies in allNames, behind so many registers, conditions and operations. -/
structure Al (w X : World) (rg cd : Nat) (g : Nm) : Prop where
  below : Below w.heap.size w X
  r : MapIs X (w.heap.size + 1) ((regL rg).map encI)
  c : MapIs X (w.heap.size + 2) ((condL cd).map encI)
  two : Two X (w.heap.size + 3) (w.heap.size + 4) g
  row : rowAt X (w.heap.size + 5) = some (knC w.heap.size)
  res : roomAt X w.heap.size 4 = true
  nul : rowAt X w.heap.size = some #[.map none, .map none, .map none, .map none]
  lt : w.heap.size + 5 < X.heap.size
  vars : Vars X
  big : 9 ≤ w.heap.size
theorem Al.call {w X Y : World} {rg cd : Nat} {g : Nm} (h : Al w X rg cd g) (hb : Below X.heap.size X Y) : Al w Y rg cd g :=
  ⟨h.below.trans (hb.mono h.below.size), h.r.call hb, h.c.call hb, h.two.call hb, (rowAt_below hb _ h.lt).trans h.row, (roomAt_below hb _ _ (by have := h.lt; omega)).trans h.res, (rowAt_below hb _ (by have := h.lt; omega)).trans h.nul, Nat.lt_of_lt_of_le h.lt hb.size, h.vars.call hb, h.big⟩
theorem Al.drew {w X : World} {rg cd : Nat} {g : Nm} (h : Al w X rg cd g) : Al w X.drew rg cd g := h.call (Below.refl _ _).drew
theorem row_grown {w w' : World} {r x : Nat} (h : w.grownBy w' (some r)) (hx : x < w.heap.size) (hn : x ≠ r) : rowAt w' x = rowAt w x ∧ ∀ n, roomAt w' x n = roomAt w x n := by
  have e := h.block x hx (fun e => hn (Option.some.inj e))
  unfold rowAt roomAt; rw [e]; exact ⟨rfl, fun _ => rfl⟩
theorem Al.turn {w X Y : World} {rg cd rg' cd' : Nat} {g : Nm} (h : Al w X rg cd g) {b : Nat} (hg : X.grownBy Y (some b)) (hb : b = w.heap.size + 1 ∨ b = w.heap.size + 2) (h1 : MapIs Y (w.heap.size + 1) ((regL rg').map encI)) (h2 : MapIs Y (w.heap.size + 2) ((condL cd').map encI)) : Al w Y rg' cd' g := by
  have lt := h.lt
  have hB : Below w.heap.size X Y := (Below.refl _ _).grown hg (by omega) (fun j hj => by obtain rfl := Option.some.inj hj; omega)
  exact ⟨h.below.trans hB, h1, h2, ⟨h.two.ne, h.two.r.grown hg (fun e => by have := Option.some.inj e; omega), h.two.n.grown hg (fun e => by have := Option.some.inj e; omega), h.two.few⟩, (row_grown hg h.lt (by omega)).1.trans h.row, ((row_grown hg (by omega) (by omega)).2 4).trans h.res, (row_grown hg (by omega) (by omega)).1.trans h.nul, Nat.lt_of_lt_of_le h.lt hg.size, h.vars.below hB h.big, h.big⟩
theorem Al.ops {w X Y : World} {rg cd : Nat} {g g' : Nm} (h : Al w X rg cd g) (ht : Two Y (w.heap.size + 3) (w.heap.size + 4) g') (ha : Aside (w.heap.size + 3) (w.heap.size + 4) X Y) : Al w Y rg cd g' := by
  have lt := h.lt
  have hB : Below w.heap.size X Y := ha.below _ (by omega) (by omega) (by omega)
  have k := fun x hx h3 h4 => ha.kept x hx h3 h4
  exact ⟨h.below.trans hB, h.r.block (k _ (by omega) (by omega) (by omega)), h.c.block (k _ (by omega) (by omega) (by omega)), ht, (ha.row (by omega) (by omega) (by omega)).trans h.row, (by have := h.res; unfold roomAt at this ⊢; rw [k _ (by omega) (by omega) (by omega)]; exact this), (ha.row (by omega) (by omega) (by omega)).trans h.nul, Nat.lt_of_lt_of_le h.lt ha.size, h.vars.below hB h.big, h.big⟩
theorem regL_len : ∀ n, (regL n).length = n
  | 0 => rfl
  | n + 1 => by simp [regL, regL_len n]
theorem condL_len : ∀ n, (condL n).length = n
  | 0 => rfl
  | n + 1 => by simp [condL, condL_len n]
theorem allN_len : ∀ m, (allN m).r.length + (allN m).n.length ≤ 4 * m
  | 0 => by simp [allN]
  | m + 1 => by
    have := allN_len m
    have := opN_len (m / 16) (m % 16) (allN m) 4
    unfold allN; omega
def condsC : Array Value := ((List.range 16).map fun o : Nat => (.string (bs (condName o)) : Value)).toArray
theorem load66 (X : World) (V : Vars X) : (loadVar 43 ⟨0, 0, none⟩).run Tryz.prog X = .ok (.agg condsC) X := by
  have := run_loadVar_mid (P := Tryz.prog) X 0 0 43 condsC.toList _ (fun j v hv => by
    have hj : j < 16 := by have := (List.getElem?_eq_some_iff.1 hv).1; simpa [condsC] using this
    rw [Nat.zero_add, V.conds j hj]
    simp [condsC, hj] at hv
    rw [hv]) Tryz.underlying43 rfl (by kernel_rfl)
  simpa using this
def loadC (a : Addr) : Sem Value := loadVar 43 a
theorem loadC_seal (a : Addr) : loadVar 43 a = loadC a := rfl
attribute [local go_sem ↓] loadC_seal
theorem condsC_at (j : Nat) (h : j < 16) : condsC[j]? = some (.string (bs (condName j))) := by simp [condsC, h]
theorem MapIs.made' (w : World) (b : Nat) (h : b = w.heap.size) : MapIs (w.alloc (.map #[] 0)) b [] := by subst h; exact MapIs.made w
theorem Al.start (w : World) (V : Vars w) (t1 t2 : TypeId) : Al w ((((((w.alloc (.cells #[.map none, .map none, .map none, .map none] t1)).alloc (.map #[] 0)).alloc (.map #[] 0)).alloc (.map #[] 0)).alloc (.map #[] 0)).alloc (.cells (knC w.heap.size) t2)) 0 0 ⟨[], []⟩ where
  below := by go_grown
  r := ((((MapIs.made' (w.alloc (.cells #[.map none, .map none, .map none, .map none] t1)) _ (by simp)).alloc _).alloc _).alloc _).alloc _
  c := (((MapIs.made' ((w.alloc (.cells #[.map none, .map none, .map none, .map none] t1)).alloc (.map #[] 0)) _ (by simp)).alloc _).alloc _).alloc _
  two := ⟨by omega, ((MapIs.made' (((w.alloc (.cells #[.map none, .map none, .map none, .map none] t1)).alloc (.map #[] 0)).alloc (.map #[] 0)) _ (by simp)).alloc _).alloc _, (MapIs.made' ((((w.alloc (.cells #[.map none, .map none, .map none, .map none] t1)).alloc (.map #[] 0)).alloc (.map #[] 0)).alloc (.map #[] 0)) _ (by simp)).alloc _, by simp⟩
  row := by
    have h := rowAt_new (((((w.alloc (.cells #[.map none, .map none, .map none, .map none] t1)).alloc (.map #[] 0)).alloc (.map #[] 0)).alloc (.map #[] 0)).alloc (.map #[] 0)) (knC w.heap.size) t2 (0, 0)
    rwa [show (((((w.alloc (.cells #[.map none, .map none, .map none, .map none] t1)).alloc (.map #[] 0)).alloc (.map #[] 0)).alloc (.map #[] 0)).alloc (.map #[] 0)).heap.size = w.heap.size + 5 by simp] at h
  res := by
    rw [roomAt_old _ _ _ _ (by simp; omega), roomAt_old _ _ _ _ (by simp; omega), roomAt_old _ _ _ _ (by simp; omega), roomAt_old _ _ _ _ (by simp; omega), roomAt_old _ _ _ _ (by simp)]
    exact roomAt_new _ _ _ _ _ rfl rfl
  nul := by
    rw [rowAt_old _ _ _ (by simp; omega), rowAt_old _ _ _ (by simp; omega), rowAt_old _ _ _ (by simp; omega), rowAt_old _ _ _ (by simp; omega), rowAt_old _ _ _ (by simp)]
    exact rowAt_new _ _ _ _
  lt := by simp
  vars := (((((V.alloc _).alloc _).alloc _).alloc _).alloc _).alloc _
  big := V.big
theorem store57 (X : World) (b : Nat) (n : Nat) (h : roomAt X b 4 = true) : (storeVar 34 ⟨b, 0, none⟩ (.agg (knC n))).run Tryz.prog X = .ok () (putRow X b (knC n)) := by
  rw [putRow_eq]; exact run_storeVar_mid X b 0 34 (knC n) (room_there h) (by kernel_rfl) (by simp [knC, Value.oneCell'])
theorem load57 (X : World) (b : Nat) (n : Nat) (h : rowAt X b = some (knC n)) : (loadVar 34 ⟨b, 0, none⟩).run Tryz.prog X = .ok (.agg (knC n)) X := by
  have := run_loadVar_mid (P := Tryz.prog) X b 0 34 (knC n).toList _ (fun j v hv => by rw [Nat.zero_add, rowAt_cell h]; simpa using hv) Tryz.underlying34 rfl (by kernel_rfl)
  simpa using this
theorem reg_size (n : Nat) (h : n < 16) : (bs (regP n)).size ≤ 22 := by
  have := Lib.itoa_length_le (n : Int) (by omega) (by omega)
  rw [bs_size, regP]; simp; omega
theorem index66 (k : Nat) (h : k < 16) (W : World) : (Instr.index 43 (.agg condsC) (.int .i64 (k : Int))).run Tryz.prog W = .ok (.string (bs (condName k))) W := by
  have h1 : (0 : Int) ≤ k ∧ (k : Int) < 16 := by omega
  have h2 := condsC_at k h
  simp [Instr.index, asIntOf, run_underlying Tryz.underlying43, h, part, Tryz.sizeOf9, Tryz.isAgg9, h2]
def fmtC : Array Value := #[.int .i64 0, .int .i64 1, .int .i64 2, .int .i64 3]
theorem fmtC_at (k : Nat) (h : k < 4) : fmtC[k]? = some (.int .i64 k) := by
  rcases (show k = 0 ∨ k = 1 ∨ k = 2 ∨ k = 3 by omega) with rfl | rfl | rfl | rfl <;> rfl
theorem rowN (w : World) (b : Nat) (h : rowAt w b = some #[.map none, .map none, .map none, .map none]) : w.cell? ⟨b, 0, none⟩ = some (.map none) ∧ w.cell? ⟨b, 1, none⟩ = some (.map none) ∧ w.cell? ⟨b, 2, none⟩ = some (.map none) ∧ w.cell? ⟨b, 3, none⟩ = some (.map none) :=
  ⟨rowAt_cell h 0, rowAt_cell h 1, rowAt_cell h 2, rowAt_cell h 3⟩
set_option maxRecDepth 20000 in
set_option maxHeartbeats 2000000 in
theorem names_any (w : World) (V : Vars w) :
    Calls Tryz.prog 8 #[] w fun e w' => e = .returned (.agg (knC w.heap.size)) ∧ Known w' (w.heap.size + 1) (w.heap.size + 2) (w.heap.size + 3) (w.heap.size + 4) ∧ Below w.heap.size w w' := by
  have hmm := @run_makeMap Tryz.prog
  have AS := fun t1 t2 => Al.start w V t1 t2
  have HS : Hid _ := AS
  clear AS V
  go_enter Tryz.func8, Tryz.ntmps8
  go_wp2
  go_loopg [13] 16 (fun gf s13 wx => ∃ k : Nat, k ≤ 16 ∧ 16 ≤ k + gf ∧ s13 = .int .i64 k ∧ Al w wx k 0 ⟨[], []⟩)
  case atStart => exact ⟨0, by omega, by omega, by go_num, HS.out _ _⟩
  case round =>
    obtain ⟨k, hk, hg, rfl, hA⟩ := hrel
    have hrow := hA.row
    obtain ⟨c0, c1, c2, c3⟩ := row4 _ _ _ _ _ _ hrow
    have HA : Hid (Al w wr k 0 ⟨[], []⟩) := hA
    have lt := hA.lt
    clear hA HS
    by_cases hk2 : k < 16
    · obtain ⟨g', rfl⟩ : ∃ g', gk = g' + 1 := ⟨gk - 1, by omega⟩
      have RG := register_any (k : Int) wr.drew HA.out.drew.vars (by omega) (by omega)
      have hz := reg_size k hk2
      have hm : (bs (regP k)).size ≤ maxLen := by unfold maxLen; omega
      go_wp2
      go_region_with (go_at_call 16; refine RG.mono ?_; rintro e w3 ⟨rfl, hb3⟩; have d0 : w3.cell? ⟨w.heap.size + 5, 0, none⟩ = some (.map (some (w.heap.size + 1))) := (hb3.cell (p := ⟨w.heap.size + 5, 0, none⟩) lt).trans c0; obtain ⟨w4, hrun, hM, hgr⟩ := MapIs.put (HA.out.drew.call hb3).r (by rw [List.length_map, regL_len]; omega) Tryz.underlying31 (bs (regP k)) hm (.int .i64 k))
      all_goals go_wp2
      all_goals go_roundg g'
      all_goals first
        | omega
        | exact ⟨k + 1, by omega, by omega, by go_num, (HA.out.drew.call hb3).turn hgr (.inl rfl) (by rw [bs_data] at hM; exact hM) ((HA.out.drew.call hb3).c.grown hgr (by simp))⟩
    · obtain rfl : k = 16 := by omega
      have hl : (loadC ⟨0, 0, none⟩).run Tryz.prog wr = .ok (.agg condsC) wr := load66 wr HA.out.vars
      go_wp2
      obtain ⟨wo, rfl⟩ : ∃ wo, wo = wr := ⟨_, rfl⟩
      go_loopg [23] 16 (fun gf s23 wx => ∃ k : Nat, k ≤ 16 ∧ 16 ≤ k + gf ∧ s23 = .int .i64 k ∧ Al w wx 16 k ⟨[], []⟩)
      case atStart => exact ⟨0, by omega, by omega, by go_num, HA.out⟩
      case round =>
        obtain ⟨k, hk, hgk, rfl, hA⟩ := hrel
        have hrow := hA.row
        obtain ⟨c0, c1, c2, c3⟩ := row4 _ _ _ _ _ _ hrow
        have HB : Hid (Al w wr 16 k ⟨[], []⟩) := hA
        have lt := hA.lt
        clear hA hl HA
        by_cases hk2 : k < 16
        · obtain ⟨g', rfl⟩ : ∃ g', gk = g' + 1 := ⟨gk - 1, by omega⟩
          have hix : ∀ W, (Instr.index 43 (.agg condsC) (.int .i64 (k : Int))).run Tryz.prog W = .ok (.string (bs (condName k))) W := index66 k hk2
          have hm : (bs (condName k)).size ≤ maxLen := by rw [bs_size, cond_len]; unfold maxLen; omega
          go_wp2_with (at_mapUpdate; refine wpList_put rfl _ _ _ 31 rfl 3 Tryz.underlying31 (w.heap.size + 2) _ rfl HB.out.c (by rw [List.length_map, condL_len]; omega) (bs (condName k)) (.int .i64 k) rfl rfl hm ?_; intro w4 hM hgr)
          go_roundg g'
          case measure => omega
          case rel => exact ⟨k + 1, by omega, by omega, by go_num, HB.out.turn hgr (.inr rfl) (HB.out.r.grown hgr (by simp)) (by rw [bs_data] at hM; exact hM)⟩
        · obtain rfl : k = 16 := by omega
          obtain ⟨wp, rfl⟩ : ∃ wp, wp = wr := ⟨_, rfl⟩
          go_wp2
          go_loopg [34] 4 (fun gf s34 wx => ∃ k : Nat, k ≤ 4 ∧ 4 ≤ k + gf ∧ s34 = .int .i64 k ∧ Al w wx 16 16 (allN (16 * k)) ∧ rowAt wx wp.heap.size = some fmtC ∧ wp.heap.size < wx.heap.size)
          case atStart => exact ⟨0, by omega, by omega, by go_num, HB.out.call ((Below.refl _ _).alloc (Nat.le_refl _) _), rowAt_new _ _ _ _, by simp⟩
          case round =>
            obtain ⟨k, hk, hgk, rfl, hA, hfr, hfl⟩ := hrel
            obtain ⟨wq, rfl⟩ : ∃ wq, wq = wr := ⟨_, rfl⟩
            obtain ⟨go, rfl⟩ : ∃ go, go = gk := ⟨_, rfl⟩
            have HC : Hid (Al w wq 16 16 (allN (16 * k)) ∧ rowAt wq wp.heap.size = some fmtC) := ⟨hA, hfr⟩
            by_cases hk2 : k < 4
            · obtain ⟨g', rfl⟩ : ∃ g', go = g' + 1 := ⟨go - 1, by omega⟩
              have cf : wq.cell? ⟨wp.heap.size, k, none⟩ = some (.int .i64 k) := (rowAt_cell hfr k).trans (fmtC_at k hk2)
              have hkd : decide ((k : Int) < 4) = true := by simp; omega
              clear hA hfr HB
              go_wp2
              go_loopg [38] 16 (fun gj s38 wx => ∃ j : Nat, j ≤ 16 ∧ 16 ≤ j + gj ∧ s38 = .int .i64 j ∧ Al w wx 16 16 (allN (16 * k + j)) ∧ rowAt wx wp.heap.size = some fmtC ∧ wp.heap.size < wx.heap.size)
              case atStart => exact ⟨0, by omega, by omega, by go_num, HC.out.1, HC.out.2, hfl⟩
              case round =>
                obtain ⟨j, hj, hgj, rfl, hA, hfr, hfl2⟩ := hrel
                have HD : Hid (Al w wr 16 16 (allN (16 * k + j)) ∧ rowAt wr wp.heap.size = some fmtC) := ⟨hA, hfr⟩
                have hrow := hA.row
                obtain ⟨c0, c1, c2, c3⟩ := row4 _ _ _ _ _ _ hrow
                have lt := hA.lt
                clear hA hfr cf
                by_cases hj2 : j < 16
                · obtain ⟨gj', rfl⟩ : ∃ g', gk = g' + 1 := ⟨gk - 1, by omega⟩
                  have hl := allN_len (16 * k + j)
                  have AO := addOp_any k j (by omega) (by omega) (b0 := w.heap.size + 1) (b1 := w.heap.size + 2) wr HD.out.1.vars HD.out.1.two (by have := HD.out.1.big; omega) (by have := HD.out.1.big; omega) (by omega)
                  go_wp2_with (go_at_call 17; refine AO.mono ?_; rintro e w6 ⟨rfl, hT6, hA6⟩)
                  go_roundg gj'
                  case measure => omega
                  case rel =>
                    refine ⟨j + 1, by omega, by omega, by go_num, HD.out.1.ops ?_ hA6, (hA6.row hfl2 (by have := HC.out.1.lt; omega) (by have := HC.out.1.lt; omega)).trans HD.out.2, Nat.lt_of_lt_of_le hfl2 hA6.size⟩
                    have e1 : allN (16 * k + (j + 1)) = opN ((16 * k + j) / 16) ((16 * k + j) % 16) (allN (16 * k + j)) 4 := rfl
                    rw [e1, show (16 * k + j) / 16 = k by omega, show (16 * k + j) % 16 = j by omega]
                    exact hT6
                · obtain rfl : j = 16 := by omega
                  go_wp2
                  go_roundg g'
                  case measure => omega
                  case rel => exact ⟨k + 1, by omega, by omega, by go_num, HD.out.1, HD.out.2, hfl2⟩
            · obtain rfl : k = 4 := by omega
              have hn := hA.nul
              have hm4 := hA.res
              have f0 := row_free hm4
              obtain ⟨n0, n1, n2, n3⟩ := rowN _ _ hn
              have hrow := hA.row
              obtain ⟨c0, c1, c2, c3⟩ := row4 _ _ _ _ _ _ hrow
              clear hA hfr HB
              go_wp2
              obtain ⟨p1, m1⟩ := row_set hn hm4 0 (.map (some (w.heap.size + 1))) (by omega)
              obtain ⟨p2, m2⟩ := row_set p1 m1 1 (.map (some (w.heap.size + 2))) (by omega)
              obtain ⟨p3, m3⟩ := row_set p2 m2 2 (.map (some (w.heap.size + 3))) (by omega)
              obtain ⟨p4, m4⟩ := row_set p3 m3 3 (.map (some (w.heap.size + 4))) (by omega)
              have H1 := HC.out.1
              have hl1 := H1.lt
              refine ret_cell1 rfl rfl (load57 _ _ w.heap.size p4) rfl ⟨rfl, ⟨?_, ?_, ?_, ?_⟩, (((H1.below.setCell (Nat.le_refl _) _).setCell (Nat.le_refl _) _).setCell (Nat.le_refl _) _).setCell (Nat.le_refl _) _⟩
              · exact H1.r.block (by rw [Below.heap_setCell _ _ _ _ (by show w.heap.size + 1 ≠ w.heap.size; omega), Below.heap_setCell _ _ _ _ (by show w.heap.size + 1 ≠ w.heap.size; omega), Below.heap_setCell _ _ _ _ (by show w.heap.size + 1 ≠ w.heap.size; omega), Below.heap_setCell _ _ _ _ (by show w.heap.size + 1 ≠ w.heap.size; omega)])
              · exact H1.c.block (by rw [Below.heap_setCell _ _ _ _ (by show w.heap.size + 2 ≠ w.heap.size; omega), Below.heap_setCell _ _ _ _ (by show w.heap.size + 2 ≠ w.heap.size; omega), Below.heap_setCell _ _ _ _ (by show w.heap.size + 2 ≠ w.heap.size; omega), Below.heap_setCell _ _ _ _ (by show w.heap.size + 2 ≠ w.heap.size; omega)])
              · exact H1.two.r.block (by rw [Below.heap_setCell _ _ _ _ (by show w.heap.size + 3 ≠ w.heap.size; omega), Below.heap_setCell _ _ _ _ (by show w.heap.size + 3 ≠ w.heap.size; omega), Below.heap_setCell _ _ _ _ (by show w.heap.size + 3 ≠ w.heap.size; omega), Below.heap_setCell _ _ _ _ (by show w.heap.size + 3 ≠ w.heap.size; omega)])
              · exact H1.two.n.block (by rw [Below.heap_setCell _ _ _ _ (by show w.heap.size + 4 ≠ w.heap.size; omega), Below.heap_setCell _ _ _ _ (by show w.heap.size + 4 ≠ w.heap.size; omega), Below.heap_setCell _ _ _ _ (by show w.heap.size + 4 ≠ w.heap.size; omega), Below.heap_setCell _ _ _ _ (by show w.heap.size + 4 ≠ w.heap.size; omega)])
end Go.Proofs.YtmldlkcgaepaaaaGreatDoor
