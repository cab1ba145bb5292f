/-
  The law on sums and differences of 64 bits: its walk.
-/
import Derived.Test.YtkhgeldnlffgjabDoorWideV
namespace Go.Proofs.YtkhgeldnlffgjabDoor
open Go.ChangeShapes Go.WideShapes Go.ChangeAt Go.RowKit
attribute [local go_sem ↓] loadCpu_seal storeCpu_seal loadIn_seal storeIn_seal
attribute [local go_sem] loadCpu_run storeCpu_run loadIn_run storeIn_run rowAt_at rowAt_past rowAt_drew rowAt_drewN roomCpu_new roomIn_new roomAt_old roomAt_drew roomAt_drewN putCpu_new putIn_new Cp.zero_fold In.fold putRow_past rowCpu_put rowIn_put size_put putRow_drew putRow_drewN alloc_drewN setCell_drewN Cp.at16 Cp.at17 Cp.at18 Cp.at19 Cp.at20 Cp.at21 Cp.size Cp.set16 Cp.set17 Cp.set18 Cp.set19 Cp.set20 Cp.set21 In.at0 In.at1 In.at2 In.at3 In.at4 In.at5 In.at6 In.at7 In.size In.set0 In.set1 In.set2 In.set3 In.ne Cp.ne In.set4 In.set5 In.set6 In.set7
attribute [local go_sem ↓] eqlCpu_seal
attribute [local go_sem] put_cell put_room put_froz
set_option linter.unusedVariables false

theorem sumC_ok (a b : Int) (a0 : 0 ≤ a) (b0 : 0 ≤ b) : ∀ k, k ≤ 1 → (sumC a b k).Ok
  | 0, _ => zero_ok
  | 1, _ => execD_ok _ (halfs_ok zero_ok (by omega) (by omega) (by omega) (by omega)) (by omega) (by omega)
theorem difC_ok (a b : Int) (a0 : 0 ≤ a) (b0 : 0 ≤ b) : ∀ k, k ≤ 1 → (difC a b k).Ok
  | 0, _ => zero_ok
  | 1, _ => execD_ok _ (halfs_ok zero_ok (by omega) (by omega) (by omega) (by omega)) (by omega) (by omega)
/-- What two calls make of the halves, and what is laid behind. -/
structure Rnd (w : World) (s t p q : Int) (C D X Y : Cp) (gx gy : Nat) (V : World) : Prop where
  k : Keeps w ((gy, Y.cells) :: (gx, X.cells) :: wRows w s t p q C D) V
  lx : w.heap.size + 1 + 1 + 1 < gx
  ly : gx < gy
theorem Rnd.own {w V : World} {s t p q : Int} {C D X Y : Cp} {gx gy : Nat} (h : Rnd w s t p q C D X Y gx gy V) : Keeps w (wRows w s t p q C D) V := ⟨h.k.1, fun r hr => h.k.2 r (List.mem_cons_of_mem _ (List.mem_cons_of_mem _ hr))⟩
/-- What is read while the answers are laid. -/
structure RndF (w : World) (X Y : Cp) (gx gy : Nat) (V : World) : Prop where
  rx : rowAt V gx = some X.cells
  rc : roomAt V (w.heap.size + 1 + 1) 22 = true
  ry : ∀ Z, rowAt (putRow V (w.heap.size + 1 + 1) Z) gy = some Y.cells
  rd : ∀ e : Cp, roomAt (putRow V (w.heap.size + 1 + 1) e.cells) (w.heap.size + 1 + 1 + 1) 22 = true
  cx : ∀ Z Z' j, (putRow (putRow V (w.heap.size + 1 + 1) Z) (w.heap.size + 1 + 1 + 1) Z').cell? ⟨gx, j, none⟩ = X.cells[j]?
  cy : ∀ Z Z' j, (putRow (putRow V (w.heap.size + 1 + 1) Z) (w.heap.size + 1 + 1 + 1) Z').cell? ⟨gy, j, none⟩ = Y.cells[j]?
theorem Rnd.facts {w V : World} {s t p q : Int} {C D X Y : Cp} {gx gy : Nat} (h : Rnd w s t p q C D X Y gx gy V) : RndF w X Y gx gy V := by
  have lx := h.lx
  have ly := h.ly
  have kx := h.k.row (b := gx) (c := X.cells) (by simp)
  have ky := h.k.row (b := gy) (c := Y.cells) (by simp)
  have cx := h.k.cell (b := gx) (c := X.cells) (by simp)
  have cy := h.k.cell (b := gy) (c := Y.cells) (by simp)
  have rc : roomAt V (w.heap.size + 1 + 1) 22 = true := h.own.room (b := w.heap.size + 1 + 1) (c := C.cells) (by simp [wRows])
  have rd : roomAt V (w.heap.size + 1 + 1 + 1) 22 = true := h.own.room (b := w.heap.size + 1 + 1 + 1) (c := D.cells) (by simp [wRows])
  exact ⟨kx, rc, fun Z => (put_row_far _ _ _ _ (by omega)).trans ky, fun e => (put_room _ _ _ _ e rc).trans rd, fun Z Z' j => (put_cell_far _ _ _ j _ (by omega)).trans ((put_cell_far _ _ _ j _ (by omega)).trans (cx j)), fun Z Z' j => (put_cell_far _ _ _ j _ (by omega)).trans ((put_cell_far _ _ _ j _ (by omega)).trans (cy j))⟩
set_option maxHeartbeats 4000000 in
set_option maxRecDepth 20000 in
theorem wide_walk (a b : Int) (w : World) (hw : Ways w) (a0 : 0 ≤ a) (a1 : a ≤ 18446744073709551615) (b0 : 0 ≤ b) (b1 : b ≤ 18446744073709551615) : Calls Tryd.prog 4 #[.int .u64 a, .int .u64 b] w fun e w' => e = .returned (.bool true) ∧ Below w.heap.size w w' := by
  have HW : Hid (Ways w) := hw
  have g0 : ∀ (c : Cp), c.cells[0]? = some (.int .u32 (c.R 0)) := fun c => Cp.atR c 0 (by omega)
  have g1 : ∀ (c : Cp), c.cells[1]? = some (.int .u32 (c.R 1)) := fun c => Cp.atR c 1 (by omega)
  have g2 : ∀ (c : Cp), c.cells[2]? = some (.int .u32 (c.R 2)) := fun c => Cp.atR c 2 (by omega)
  have hh1 : ∀ u v c, (halfs u v c).R 1 = u := fun u v c => rfl
  have hh2 : ∀ u v c, (halfs u v c).R 2 = v := fun u v c => rfl
  have K0 : Hid (Keeps w (wRows w 0 0 0 0 (sumC a b 0) (difC a b 0)) ((((w.alloc (.cells (twoRow 0 0) 36)).alloc (.cells (twoRow 0 0) 36)).alloc (.cells Cp.zero.cells 25)).alloc (.cells Cp.zero.cells 25))) := by
    have := ((((Keeps.refl w).new (twoRow 0 0) 36).new (twoRow 0 0) 36).new Cp.zero.cells 25).new Cp.zero.cells 25
    show Keeps _ _ _
    simpa [wRows, sumC, difC] using this
  clear hw
  go_enter Tryd.func4, Tryd.ntmps4
  go_wp2
  go_loopw [9] (fun s9 X => ∃ k : Nat, k ≤ 2 ∧ s9 = .int .i64 k ∧ Keeps w (wRows w (if 1 ≤ k then (sumC a b 1).R 0 else 0) (if 2 ≤ k then (sumC a b 2).R 0 else 0) (if 1 ≤ k then (difC a b 1).R 0 else 0) (if 2 ≤ k then (difC a b 2).R 0 else 0) (sumC a b k) (difC a b k)) X) (fun s9 _ => 2 - (intOf s9).toNat)
  case atStart => exact ⟨0, by omega, rfl, K0.out⟩
  case round =>
    clear K0
    obtain ⟨k, hk, rfl, hK⟩ := hrel
    have hk3 : k = 0 ∨ k = 1 ∨ k = 2 := by omega
    rcases hk3 with rfl | rfl | rfl
    · have HK : Hid (Keeps w (wRows w 0 0 0 0 (sumC a b 0) (difC a b 0)) wr) := hK
      have A := Half.of HK.out
      have a1_ := A.rc
      have a2_ := A.qc
      have a3_ := A.fc
      have a4_ := A.h1
      have a5_ := A.h2
      have a6_ := A.qd
      have a7_ := A.fd
      have a8_ := A.h3
      have a9_ := A.q2
      have a10_ := A.rd
      have a11_ := A.h4
      clear A hK
      go_upto_region 12 with fail
      have K1 : Hid (Keeps w (wRows w 0 0 0 0 (halfs (a % 4294967296) (b % 4294967296) (sumC a b 0)) (halfs (a % 4294967296) (b % 4294967296) (difC a b 0))) (putRow (putRow wr (w.heap.size + 1 + 1) (halfs (a % 4294967296) (b % 4294967296) (sumC a b 0)).cells) (w.heap.size + 1 + 1 + 1) (halfs (a % 4294967296) (b % 4294967296) (difC a b 0)).cells)) := halfs_keep HK.out _ _
      clear a1_ a2_ a3_ a4_ a5_ a6_ a7_ a8_ a9_ a10_ a11_ HK
      generalize putRow (putRow wr (w.heap.size + 1 + 1) (halfs (a % 4294967296) (b % 4294967296) (sumC a b 0)).cells) (w.heap.size + 1 + 1 + 1) (halfs (a % 4294967296) (b % 4294967296) (difC a b 0)).cells = W1 at *
      have r1 := K1.out.row (b := w.heap.size + 1 + 1) (c := (halfs (a % 4294967296) (b % 4294967296) (sumC a b 0)).cells) (by simp [wRows])
      have T1 : Hid (∀ X, Ways X → Calls Tryd.prog 9 #[.agg (halfs (a % 4294967296) (b % 4294967296) (sumC a b 0)).cells, .int .i64 8, .bool false] X fun e w' => e = .returned (.tuple #[.agg (sumC a b 1).cells, .bool false]) ∧ Below X.heap.size X w') := fun X hX => by
        have := two_gen (halfs (a % 4294967296) (b % 4294967296) (sumC a b 0)) 8 false X hX (halfs_ok (sumC_ok a b a0 b0 0 (by omega)) (by omega) (by omega) (by omega) (by omega))
        rw [(two_add (halfs (a % 4294967296) (b % 4294967296) (sumC a b 0)) false).2] at this
        exact this
      have T2 : Hid (∀ X, Ways X → Calls Tryd.prog 9 #[.agg (halfs (a % 4294967296) (b % 4294967296) (difC a b 0)).cells, .int .i64 9, .bool false] X fun e w' => e = .returned (.tuple #[.agg (difC a b 1).cells, .bool false]) ∧ Below X.heap.size X w') := fun X hX => by
        have := two_gen (halfs (a % 4294967296) (b % 4294967296) (difC a b 0)) 9 false X hX (halfs_ok (difC_ok a b a0 b0 0 (by omega)) (by omega) (by omega) (by omega) (by omega))
        rw [(two_sub (halfs (a % 4294967296) (b % 4294967296) (difC a b 0)) false).2] at this
        exact this
      go_upto_region 16 with (first
        | (go_at_call 9; have hx := K2; clear hx; refine (T2.out _ (HW.out.below K2.out.1.1 HW.out.big)).mono ?_; rintro e w4 ⟨rfl, hb4⟩; have K3 : Hid (Rnd w 0 0 0 0 (halfs (a % 4294967296) (b % 4294967296) (sumC a b 0)) (halfs (a % 4294967296) (b % 4294967296) (difC a b 0)) (sumC a b 1) (difC a b 1) w3.heap.size w4.heap.size (w4.alloc (.cells (difC a b 1).cells 25))) := ⟨(K2.out.1.call hb4).new _ _, K2.out.2, (by have := hb4.size; simp at this; omega)⟩; clear hb4)
        | (go_at_call 9; refine (T1.out _ (HW.out.below K1.out.1 HW.out.big)).mono ?_; rintro e w3 ⟨rfl, hb3⟩; have K2 : Hid (Keeps w ((w3.heap.size, (sumC a b 1).cells) :: wRows w 0 0 0 0 (halfs (a % 4294967296) (b % 4294967296) (sumC a b 0)) (halfs (a % 4294967296) (b % 4294967296) (difC a b 0))) (w3.alloc (.cells (sumC a b 1).cells 25)) ∧ w.heap.size + 1 + 1 + 1 < w3.heap.size) := ⟨(K1.out.call hb3).new _ _, ((K1.out.call hb3).2 (w.heap.size + 1 + 1 + 1, (halfs (a % 4294967296) (b % 4294967296) (difC a b 0)).cells) (by simp [wRows])).2.2⟩; have r2 := K2.out.1.row (b := w.heap.size + 1 + 1 + 1) (c := (halfs (a % 4294967296) (b % 4294967296) (difC a b 0)).cells) (by simp [wRows]); clear hb3))
      generalize w4.alloc (.cells (difC a b 1).cells 25) = V at *
      have L4 : Hid (w.heap.size + 1 + 1 + 1 < w4.heap.size) := Nat.lt_trans K3.out.lx K3.out.ly
      have A := K3.out.facts
      have a1_ := A.rx
      have a2_ := A.rc
      have a3_ := A.ry
      have a4_ := A.rd
      have a5_ := A.cx
      have a6_ := A.cy
      clear A r1 r2 K1 K2 T1 T2
      go_upto_region 18 with fail
      have KU : Hid (Keeps w (wRows w 0 0 0 0 (sumC a b 1) (difC a b 1)) (putRow (putRow V (w.heap.size + 1 + 1) (sumC a b 1).cells) (w.heap.size + 1 + 1 + 1) (difC a b 1).cells)) := halfs_keep K3.out.own _ _
      have b5_ := a5_ (sumC a b 1).cells (difC a b 1).cells
      have b6_ := a6_ (sumC a b 1).cells (difC a b 1).cells
      clear a1_ a2_ a3_ a4_ a5_ a6_ K3
      generalize putRow (putRow V (w.heap.size + 1 + 1) (sumC a b 1).cells) (w.heap.size + 1 + 1 + 1) (difC a b 1).cells = U at *
      have c1_ := KU.out.cell (b := w.heap.size) (c := twoRow 0 0) (by simp [wRows])
      have c2_ := KU.out.froz (b := w.heap.size) (c := twoRow 0 0) (by simp [wRows]) 0 (by show 0 < 2; omega)
      have c3_ : U.setCell ⟨w.heap.size, 0, none⟩ (.int .u32 ((sumC a b 1).R 0)) = putRow U w.heap.size (twoRow ((sumC a b 1).R 0) 0) := KU.out.cellset (c := twoRow 0 0) (by simp [wRows]) rfl
      have c4_ : ∀ j, (putRow U w.heap.size (twoRow ((sumC a b 1).R 0) 0)).cell? ⟨w.heap.size + 1, j, none⟩ = (twoRow 0 0)[j]? := fun j => (put_cell_far _ _ _ j _ (by omega)).trans (KU.out.cell (b := w.heap.size + 1) (c := twoRow 0 0) (by simp [wRows]) j)
      have c5_ : (putRow U w.heap.size (twoRow ((sumC a b 1).R 0) 0)).frozen? ⟨w.heap.size + 1, 0, none⟩ = false := (put_froz_far _ _ _ 0 _ (by omega)).trans (KU.out.froz (b := w.heap.size + 1) (c := twoRow 0 0) (by simp [wRows]) 0 (by show 0 < 2; omega))
      have KS := KU.out.upd (b := w.heap.size) (c := twoRow 0 0) (d := twoRow ((sumC a b 1).R 0) 0) (by simp [wRows]) (by omega) rfl
      have c6_ : (putRow U w.heap.size (twoRow ((sumC a b 1).R 0) 0)).setCell ⟨w.heap.size + 1, 0, none⟩ (.int .u32 ((difC a b 1).R 0)) = putRow (putRow U w.heap.size (twoRow ((sumC a b 1).R 0) 0)) (w.heap.size + 1) (twoRow ((difC a b 1).R 0) 0) := KS.cellset (c := twoRow 0 0) (by simp [wRows]) rfl
      have c7_ : ∀ j, (putRow U w.heap.size (twoRow ((sumC a b 1).R 0) 0)).cell? ⟨w4.heap.size, j, none⟩ = (difC a b 1).cells[j]? := fun j => (put_cell_far _ _ _ j _ (by have := L4.out; omega)).trans (b6_ j)
      clear KS
      go_wp2
      go_roundw
      case rel => exact ⟨1, by omega, by first | rfl | go_num, sums_keep KU.out _ _ _ _⟩
      case measure => simp [intOf]
    · have HK : Hid (Keeps w (wRows w ((sumC a b 1).R 0) 0 ((difC a b 1).R 0) 0 (sumC a b 1) (difC a b 1)) wr) := hK
      have A := Half.of HK.out
      have a1_ := A.rc
      have a2_ := A.qc
      have a3_ := A.fc
      have a4_ := A.h1
      have a5_ := A.h2
      have a6_ := A.qd
      have a7_ := A.fd
      have a8_ := A.h3
      have a9_ := A.q2
      have a10_ := A.rd
      have a11_ := A.h4
      clear A hK
      go_upto_region 12 with fail
      have K1 : Hid (Keeps w (wRows w ((sumC a b 1).R 0) 0 ((difC a b 1).R 0) 0 (halfs (a / 4294967296) (b / 4294967296) (sumC a b 1)) (halfs (a / 4294967296) (b / 4294967296) (difC a b 1))) (putRow (putRow wr (w.heap.size + 1 + 1) (halfs (a / 4294967296) (b / 4294967296) (sumC a b 1)).cells) (w.heap.size + 1 + 1 + 1) (halfs (a / 4294967296) (b / 4294967296) (difC a b 1)).cells)) := halfs_keep HK.out _ _
      clear a1_ a2_ a3_ a4_ a5_ a6_ a7_ a8_ a9_ a10_ a11_ HK
      generalize putRow (putRow wr (w.heap.size + 1 + 1) (halfs (a / 4294967296) (b / 4294967296) (sumC a b 1)).cells) (w.heap.size + 1 + 1 + 1) (halfs (a / 4294967296) (b / 4294967296) (difC a b 1)).cells = W1 at *
      have r1 := K1.out.row (b := w.heap.size + 1 + 1) (c := (halfs (a / 4294967296) (b / 4294967296) (sumC a b 1)).cells) (by simp [wRows])
      have T1 : Hid (∀ X, Ways X → Calls Tryd.prog 9 #[.agg (halfs (a / 4294967296) (b / 4294967296) (sumC a b 1)).cells, .int .i64 8, .bool true] X fun e w' => e = .returned (.tuple #[.agg (sumC a b 2).cells, .bool false]) ∧ Below X.heap.size X w') := fun X hX => by
        have := two_gen (halfs (a / 4294967296) (b / 4294967296) (sumC a b 1)) 8 true X hX (halfs_ok (sumC_ok a b a0 b0 1 (by omega)) (by omega) (by omega) (by omega) (by omega))
        rw [(two_add (halfs (a / 4294967296) (b / 4294967296) (sumC a b 1)) true).2] at this
        exact this
      have T2 : Hid (∀ X, Ways X → Calls Tryd.prog 9 #[.agg (halfs (a / 4294967296) (b / 4294967296) (difC a b 1)).cells, .int .i64 9, .bool true] X fun e w' => e = .returned (.tuple #[.agg (difC a b 2).cells, .bool false]) ∧ Below X.heap.size X w') := fun X hX => by
        have := two_gen (halfs (a / 4294967296) (b / 4294967296) (difC a b 1)) 9 true X hX (halfs_ok (difC_ok a b a0 b0 1 (by omega)) (by omega) (by omega) (by omega) (by omega))
        rw [(two_sub (halfs (a / 4294967296) (b / 4294967296) (difC a b 1)) true).2] at this
        exact this
      go_upto_region 16 with (first
        | (go_at_call 9; have hx := K2; clear hx; refine (T2.out _ (HW.out.below K2.out.1.1 HW.out.big)).mono ?_; rintro e w4 ⟨rfl, hb4⟩; have K3 : Hid (Rnd w ((sumC a b 1).R 0) 0 ((difC a b 1).R 0) 0 (halfs (a / 4294967296) (b / 4294967296) (sumC a b 1)) (halfs (a / 4294967296) (b / 4294967296) (difC a b 1)) (sumC a b 2) (difC a b 2) w3.heap.size w4.heap.size (w4.alloc (.cells (difC a b 2).cells 25))) := ⟨(K2.out.1.call hb4).new _ _, K2.out.2, (by have := hb4.size; simp at this; omega)⟩; clear hb4)
        | (go_at_call 9; refine (T1.out _ (HW.out.below K1.out.1 HW.out.big)).mono ?_; rintro e w3 ⟨rfl, hb3⟩; have K2 : Hid (Keeps w ((w3.heap.size, (sumC a b 2).cells) :: wRows w ((sumC a b 1).R 0) 0 ((difC a b 1).R 0) 0 (halfs (a / 4294967296) (b / 4294967296) (sumC a b 1)) (halfs (a / 4294967296) (b / 4294967296) (difC a b 1))) (w3.alloc (.cells (sumC a b 2).cells 25)) ∧ w.heap.size + 1 + 1 + 1 < w3.heap.size) := ⟨(K1.out.call hb3).new _ _, ((K1.out.call hb3).2 (w.heap.size + 1 + 1 + 1, (halfs (a / 4294967296) (b / 4294967296) (difC a b 1)).cells) (by simp [wRows])).2.2⟩; have r2 := K2.out.1.row (b := w.heap.size + 1 + 1 + 1) (c := (halfs (a / 4294967296) (b / 4294967296) (difC a b 1)).cells) (by simp [wRows]); clear hb3))
      generalize w4.alloc (.cells (difC a b 2).cells 25) = V at *
      have L4 : Hid (w.heap.size + 1 + 1 + 1 < w4.heap.size) := Nat.lt_trans K3.out.lx K3.out.ly
      have A := K3.out.facts
      have a1_ := A.rx
      have a2_ := A.rc
      have a3_ := A.ry
      have a4_ := A.rd
      have a5_ := A.cx
      have a6_ := A.cy
      clear A r1 r2 K1 K2 T1 T2
      go_upto_region 18 with fail
      have KU : Hid (Keeps w (wRows w ((sumC a b 1).R 0) 0 ((difC a b 1).R 0) 0 (sumC a b 2) (difC a b 2)) (putRow (putRow V (w.heap.size + 1 + 1) (sumC a b 2).cells) (w.heap.size + 1 + 1 + 1) (difC a b 2).cells)) := halfs_keep K3.out.own _ _
      have b5_ := a5_ (sumC a b 2).cells (difC a b 2).cells
      have b6_ := a6_ (sumC a b 2).cells (difC a b 2).cells
      clear a1_ a2_ a3_ a4_ a5_ a6_ K3
      generalize putRow (putRow V (w.heap.size + 1 + 1) (sumC a b 2).cells) (w.heap.size + 1 + 1 + 1) (difC a b 2).cells = U at *
      have c1_ := KU.out.cell (b := w.heap.size) (c := twoRow ((sumC a b 1).R 0) 0) (by simp [wRows])
      have c2_ := KU.out.froz (b := w.heap.size) (c := twoRow ((sumC a b 1).R 0) 0) (by simp [wRows]) 1 (by show 1 < 2; omega)
      have c3_ : U.setCell ⟨w.heap.size, 1, none⟩ (.int .u32 ((sumC a b 2).R 0)) = putRow U w.heap.size (twoRow ((sumC a b 1).R 0) ((sumC a b 2).R 0)) := KU.out.cellset (c := twoRow ((sumC a b 1).R 0) 0) (by simp [wRows]) rfl
      have c4_ : ∀ j, (putRow U w.heap.size (twoRow ((sumC a b 1).R 0) ((sumC a b 2).R 0))).cell? ⟨w.heap.size + 1, j, none⟩ = (twoRow ((difC a b 1).R 0) 0)[j]? := fun j => (put_cell_far _ _ _ j _ (by omega)).trans (KU.out.cell (b := w.heap.size + 1) (c := twoRow ((difC a b 1).R 0) 0) (by simp [wRows]) j)
      have c5_ : (putRow U w.heap.size (twoRow ((sumC a b 1).R 0) ((sumC a b 2).R 0))).frozen? ⟨w.heap.size + 1, 1, none⟩ = false := (put_froz_far _ _ _ 1 _ (by omega)).trans (KU.out.froz (b := w.heap.size + 1) (c := twoRow ((difC a b 1).R 0) 0) (by simp [wRows]) 1 (by show 1 < 2; omega))
      have KS := KU.out.upd (b := w.heap.size) (c := twoRow ((sumC a b 1).R 0) 0) (d := twoRow ((sumC a b 1).R 0) ((sumC a b 2).R 0)) (by simp [wRows]) (by omega) rfl
      have c6_ : (putRow U w.heap.size (twoRow ((sumC a b 1).R 0) ((sumC a b 2).R 0))).setCell ⟨w.heap.size + 1, 1, none⟩ (.int .u32 ((difC a b 2).R 0)) = putRow (putRow U w.heap.size (twoRow ((sumC a b 1).R 0) ((sumC a b 2).R 0))) (w.heap.size + 1) (twoRow ((difC a b 1).R 0) ((difC a b 2).R 0)) := KS.cellset (c := twoRow ((difC a b 1).R 0) 0) (by simp [wRows]) rfl
      have c7_ : ∀ j, (putRow U w.heap.size (twoRow ((sumC a b 1).R 0) ((sumC a b 2).R 0))).cell? ⟨w4.heap.size, j, none⟩ = (difC a b 2).cells[j]? := fun j => (put_cell_far _ _ _ j _ (by have := L4.out; omega)).trans (b6_ j)
      clear KS
      go_wp2
      go_roundw
      case rel => exact ⟨2, by omega, by first | rfl | go_num, sums_keep KU.out _ _ _ _⟩
      case measure => simp [intOf]
    · have HK : Hid (Keeps w (wRows w ((sumC a b 1).R 0) ((sumC a b 2).R 0) ((difC a b 1).R 0) ((difC a b 2).R 0) (sumC a b 2) (difC a b 2)) wr) := hK
      have SF := sum_facts a b a0 a1 b0 b1
      have DF := dif_facts a b a0 a1 b0 b1
      have F1 : bits .or .u64 ((sumC a b 2).R 0 * 4294967296) ((sumC a b 1).R 0) = (a + b) % 18446744073709551616 := by rw [lor64 _ _ SF.2.2.2.1 SF.2.2.2.2 SF.2.2.1.1 SF.2.2.1.2]; exact SF.1
      have F2 : bits .or .u64 ((difC a b 2).R 0 * 4294967296) ((difC a b 1).R 0) = (a - b) % 18446744073709551616 := by rw [lor64 _ _ DF.2.2.2.1 DF.2.2.2.2 DF.2.2.1.1 DF.2.2.1.2]; exact DF.1
      have F3 := SF.2.1
      have F4 := DF.2.1
      have s1 := SF.2.2.1
      have s2 := SF.2.2.2
      have d1 := DF.2.2.1
      have d2 := DF.2.2.2
      have U1 : IntKind.u64.wrap (a + b) = (a + b) % 18446744073709551616 := wrap_u64 _
      have U2 : IntKind.u64.wrap (a - b) = (a - b) % 18446744073709551616 := wrap_u64 _
      have x19 : ∀ c : Cp, c.cells[19]? = some (.bool c.C) := fun c => rfl
      clear hK SF DF
      generalize sumC a b 2 = C2 at *
      generalize difC a b 2 = D2 at *
      generalize (sumC a b 1).R 0 = S1 at *
      generalize (difC a b 1).R 0 = E1 at *
      go_wp2_with (go_at_call 6; refine (shown_any _ (HW.out.below HK.out.1 HW.out.big)).mono ?_; rintro e w5 ⟨rfl, hb⟩; have K5 : Hid (Keeps w (wRows w S1 (C2.R 0) E1 (D2.R 0) C2 D2) w5) := HK.out.call hb; have k1 : ∀ j, w5.cell? ⟨w.heap.size, j, none⟩ = (twoRow S1 (C2.R 0))[j]? := K5.out.cell (by simp [wRows]); have k2 : ∀ j, w5.cell? ⟨w.heap.size + 1, j, none⟩ = (twoRow E1 (D2.R 0))[j]? := K5.out.cell (by simp [wRows]); have k3 := K5.out.cell (b := w.heap.size + 1 + 1) (c := C2.cells) (by simp [wRows]); have k4 := K5.out.cell (b := w.heap.size + 1 + 1 + 1) (c := D2.cells) (by simp [wRows]); have k5 : (twoRow S1 (C2.R 0))[0]? = some (.int .u32 S1) := rfl; have k6 : (twoRow S1 (C2.R 0))[1]? = some (.int .u32 (C2.R 0)) := rfl; have k7 : (twoRow E1 (D2.R 0))[0]? = some (.int .u32 E1) := rfl; have k8 : (twoRow E1 (D2.R 0))[1]? = some (.int .u32 (D2.R 0)) := rfl; clear hb)
      all_goals go_ret
      all_goals exact ⟨by first | rfl | (simp; done) | simp [F3, F4, U1], K5.out.1⟩
end Go.Proofs.YtkhgeldnlffgjabDoor
