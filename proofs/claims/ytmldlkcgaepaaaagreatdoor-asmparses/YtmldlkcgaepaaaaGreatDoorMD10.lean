/-
  An append to a row of the call's own: the row's block is the old one, or new.
  The document's layer 6: the row of forms.
-/
import Derived.Test.YtmldlkcgaepaaaaGreatDoorRows
import Derived.Laws.AppendOwn
import Derived.Below
import Derived.Test.YtmldlkcgaepaaaaGreatDoorMD8
namespace Go.Proofs.YtmldlkcgaepaaaaGreatDoor
set_option linter.unusedVariables false
set_option linter.unusedSimpArgs false

theorem append_block {P : Program} (w : World) (base : Nat) (t ty e : TypeId) (i : TypeInfo) (z : Value) (size bytes : Nat) (ht : P.underlying t = some (.slice e)) (hi : P.info? e = some i) (hz : i.zero = some z)
    (hsize : i.size = size) (hby : i.bytes = bytes) (v : Value) (n : Nat) (xs : List Value) (hown : w.ownsRow base e size v n xs)
    (a : Addr) (m c : Nat) (news : List Value) (hm : 0 < m) (hl : news.length = m * size) (hnews : ∀ j u, news[j]? = some u → w.cell? (a.add j) = some u) (h1 : ∀ u ∈ news, u.oneCell' = true)
    (h63 : n + m ≤ maxLen) (hbytes : (n + m) * bytes ≤ 140737488355328) {v' : Value} {w' : World} (hr : (Builtin.append_ #[t, t] ty #[v, .slice (some a) m c]).run P w = .ok v' w') :
    v'.ownBlock = v.ownBlock ∨ v'.ownBlock = some w.heap.size := by
  subst hsize
  subst hby
  have hsmall : n + m ≤ 9223372036854775807 := by simp only [maxLen] at h63; omega
  rcases hown.2 with ⟨rfl, rfl⟩ | ⟨g, cap, cur, rfl, hbg, hg, hnc, hcm, hcs, htake⟩
  · have h := run_append_nil (P := P) w t ty e i z ht hi hz a m c news hl hnews (by omega) (by omega) (by have hb := hbytes; simp only [Nat.zero_add] at hb; omega)
    rw [h] at hr
    injection hr with e1 _
    right; rw [← e1]; rfl
  · by_cases hroom : n + m ≤ cap
    · have hfit : n * i.size + news.length ≤ cur.size := by rw [hl, hcs, ← Nat.add_mul]; exact Nat.mul_le_mul_right _ hroom
      have h := run_append_room (P := P) w t ty e i ht hi g n cap cur hg a m c news hl hnews h1 hroom hfit
      rw [h] at hr
      injection hr with e1 _
      left; rw [← e1]; rfl
    · have holds : ∀ j u, xs[j]? = some u → w.cell? ((⟨g, 0, none⟩ : Addr).add j) = some u := hown.cells (g := g) rfl
      have h := run_append_grow (P := P) w t ty e i z ht hi hz ⟨g, 0, none⟩ n cap xs hown.1 holds a m c news hl hnews (by omega) (by omega) (growslice_fits (by omega) hbytes)
      rw [h] at hr
      injection hr with e1 _
      right; rw [← e1]; rfl
end Go.Proofs.YtmldlkcgaepaaaaGreatDoor

namespace Go.Proofs.YtmldlkcgaepaaaaGreatDoor
set_option linter.unusedVariables false
set_option linter.unusedSimpArgs false
open Go.ChangeShapes Go.WideShapes Go.ChangeAt Go.RowKit
attribute [local go_sem ↓] loadIn_seal storeIn_seal
attribute [local go_sem] loadIn_run storeIn_run rowAt_at rowAt_old rowAt_drew rowAt_drewN roomCpu_new roomIn_new roomAt_old roomAt_drew roomAt_drewN putCpu_new putIn_new Cp.zero_fold In.fold putRow_past rowCpu_put rowIn_put size_put putRow_drew putRow_drewN alloc_drewN setCell_drewN Cp.at16 Cp.at17 Cp.at18 Cp.at19 Cp.at20 Cp.at21 Cp.size Cp.set16 Cp.set17 Cp.set18 Cp.set19 Cp.set20 Cp.set21 In.at0 In.at1 In.at2 In.at3 In.at4 In.at5 In.at6 In.at7 In.size In.set0 In.set1 In.set2 In.set3 In.ne Cp.ne In.set4 In.set5 In.set6 In.set7

/-- The cells of a row of forms. -/
def fmC : List Fm → List Value
  | [] => []
  | f :: r => (fmA f).toList ++ fmC r
theorem fmC_len : ∀ l : List Fm, (fmC l).length = l.length * 11
  | [] => rfl
  | f :: r => by rw [fmC, List.length_append, fmC_len r, Array.length_toList, fmA_size, List.length_cons]; omega
theorem fmC_app : ∀ a b : List Fm, fmC (a ++ b) = fmC a ++ fmC b
  | [], b => rfl
  | f :: r, b => by rw [List.cons_append, fmC, fmC, fmC_app r b, List.append_assoc]
def forms7 : List Fm := formsL.take 7
def formQ (q : Nat) : Fm := ⟨opName ((q / 4 : Nat) : Int) ++ letP (decide (q % 4 % 2 = 1)) 85 ++ letP (decide (2 ≤ q % 4)) 86, mkI 1 ((q / 4 : Nat) : Int) (decide (q % 4 % 2 = 1)) (decide (2 ≤ q % 4)), if q / 4 = 0 then 1 else 2, true⟩
def formsN (n : Nat) : List Fm := forms7 ++ (List.range n).map formQ
theorem formsN_48 : formsN 48 = formsL := rfl
theorem formsN_len (n : Nat) : (formsN n).length = n + 7 := by simp [formsN, forms7, formsL]
theorem formsN_succ (n : Nat) : formsN (n + 1) = formsN n ++ [formQ n] := by unfold formsN; rw [List.range_succ, List.map_append, List.append_assoc]; rfl
/-- A form's cells, by its parts. -/
def fmB (nm : ByteArray) (i : In) (r : Int) (l : Bool) : Array Value := #[.string nm, .int .i64 i.F, .bool i.U, .bool i.V, .int .i64 i.A, .int .i64 i.B, .int .i64 i.O, .int .i64 i.C, .int .i64 i.N, .int .i64 r, .bool l]
theorem fmB_eq (f : Fm) : fmB (bs f.name) f.i (f.regs : Int) f.last = fmA f := rfl
theorem fmB_size (nm : ByteArray) (i : In) (r : Int) (l : Bool) : (fmB nm i r l).size = 11 := rfl
def buildFm (parts : Array (Nat × Value)) : Sem Value := Instr.build 65 parts
theorem buildFm_seal (parts : Array (Nat × Value)) : Instr.build 65 parts = buildFm parts := rfl
theorem buildFm_run (nm : ByteArray) (i : In) (r : Int) (l : Bool) (X : World) : (buildFm #[(0, .string nm), (1, .agg i.cells), (2, .int .i64 r), (3, .bool l)]).run Tryz.prog X = .ok (.agg (fmB nm i r l)) X := by kernel_rfl
def bslFm (n : Nat) (parts : Array (Nat × Value)) : Sem Value := Instr.buildSlice 62 n parts
theorem bslFm_seal (n : Nat) (parts : Array (Nat × Value)) : Instr.buildSlice 62 n parts = bslFm n parts := rfl
theorem bsl1_run (nm : ByteArray) (i : In) (r : Int) (l : Bool) (X : World) : (bslFm 1 #[(0, .agg (fmB nm i r l))]).run Tryz.prog X = .ok (.slice (some ⟨X.heap.size, 0, none⟩) 1 1) (X.alloc (.cells (fmB nm i r l) 65)) := by kernel_rfl
def lit7 : Array (Nat × Value) := #[(0, .agg (fmB ⟨#[77, 79, 86, 72]⟩ (mkI 0 0 true false) 1 false)), (1, .agg (fmB ⟨#[77, 79, 86, 70]⟩ (mkI 0 0 true true) 1 false)), (2, .agg (fmB ⟨#[84, 82, 65, 80]⟩ (mkI 1 15 false false) 0 true)), (3, .agg (fmB ⟨#[76, 68, 87]⟩ (mkI 2 0 false false) 2 true)), (4, .agg (fmB ⟨#[76, 68, 66]⟩ (mkI 2 0 false true) 2 true)), (5, .agg (fmB ⟨#[83, 84, 87]⟩ (mkI 2 0 true false) 2 true)), (6, .agg (fmB ⟨#[83, 84, 66]⟩ (mkI 2 0 true true) 2 true))]
theorem row7_is : ∃ r : Array Value, r = (fmC forms7).toArray := ⟨_, rfl⟩
noncomputable def row7 : Array Value := Classical.choose row7_is
theorem row7_eq : row7 = (fmC forms7).toArray := Classical.choose_spec row7_is
theorem bsl7_run' (X : World) : (bslFm 7 lit7).run Tryz.prog X = .ok (.slice (some ⟨X.heap.size, 0, none⟩) 7 7) (X.alloc (.cells (fmC forms7).toArray 65)) := by kernel_rfl
theorem bsl7_run (X : World) : (bslFm 7 #[(0, .agg (fmB ⟨#[77, 79, 86, 72]⟩ { F := 0, U := true, V := false, A := 0, B := 0, O := 0, C := 0, N := 0 } 1 false)), (1, .agg (fmB ⟨#[77, 79, 86, 70]⟩ { F := 0, U := true, V := true, A := 0, B := 0, O := 0, C := 0, N := 0 } 1 false)), (2, .agg (fmB ⟨#[84, 82, 65, 80]⟩ { F := 1, U := false, V := false, A := 0, B := 0, O := 15, C := 0, N := 0 } 0 true)), (3, .agg (fmB ⟨#[76, 68, 87]⟩ { F := 2, U := false, V := false, A := 0, B := 0, O := 0, C := 0, N := 0 } 2 true)), (4, .agg (fmB ⟨#[76, 68, 66]⟩ { F := 2, U := false, V := true, A := 0, B := 0, O := 0, C := 0, N := 0 } 2 true)), (5, .agg (fmB ⟨#[83, 84, 87]⟩ { F := 2, U := true, V := false, A := 0, B := 0, O := 0, C := 0, N := 0 } 2 true)), (6, .agg (fmB ⟨#[83, 84, 66]⟩ { F := 2, U := true, V := true, A := 0, B := 0, O := 0, C := 0, N := 0 } 2 true))]).run Tryz.prog X = .ok (.slice (some ⟨X.heap.size, 0, none⟩) 7 7) (X.alloc (.cells row7 65)) := by
  rw [row7_eq]; exact bsl7_run' X
attribute [local go_sem ↓] buildFm_seal bslFm_seal
attribute [local go_sem] buildFm_run bsl1_run bsl7_run
theorem own7 (w : World) (B : Nat) (hB : B ≤ w.heap.size) : (w.alloc (.cells row7 65)).ownsRow B 65 11 (.slice (some ⟨w.heap.size, 0, none⟩) 7 7) 7 (fmC forms7) := by
  rw [row7_eq]
  exact ⟨rfl, .inr ⟨w.heap.size, 7, (fmC forms7).toArray, rfl, hB, heap_alloc_new w _, by omega, by decide, rfl, rfl⟩⟩
theorem row_cells (w : World) (X : Array Value) : ∀ j u, X.toList[j]? = some u → (w.alloc (.cells X 65)).cell? ((⟨w.heap.size, 0, none⟩ : Addr).add j) = some u := by
  intro j u h
  rw [show (⟨w.heap.size, 0, none⟩ : Addr).add j = ⟨w.heap.size, j, none⟩ by simp [Addr.add]; omega, rowAt_cell (rowAt_new _ _ _ _)]
  simpa using h
theorem fm_one (f : Fm) : ∀ u ∈ (fmA f).toList, u.oneCell' = true := by
  intro u hu
  simp only [fmA, List.mem_cons, List.not_mem_nil, or_false] at hu
  rcases hu with rfl | rfl | rfl | rfl | rfl | rfl | rfl | rfl | rfl | rfl | rfl <;> rfl
/-- The row of forms as far as it is made, beside the row of names. -/
structure FSt (w X : World) (g : Nat) (v : Value) (n : Nat) : Prop where
  own : X.ownsRow w.heap.size 65 11 v (n + 7) (fmC (formsN n))
  bel : Below w.heap.size w X
  nam : ∀ o : Nat, o < 16 → X.cell? ⟨g, o, none⟩ = some (.string (bs (opName o)))
  ne : v.ownBlock ≠ some g
  lt : g < X.heap.size
theorem FSt.call {w X Y : World} {g n : Nat} {v : Value} (h : FSt w X g v n) (hb : Below X.heap.size X Y) : FSt w Y g v n :=
  ⟨own_call h.own hb, h.bel.trans (hb.mono h.bel.size), fun o ho => (hb.cell (p := ⟨g, o, none⟩) h.lt).trans (h.nam o ho), h.ne, Nat.lt_of_lt_of_le h.lt hb.size⟩
theorem FSt.grown {w X Y : World} {g n : Nat} {v v' : Value} (h : FSt w X g v n) (ho : Y.ownsRow w.heap.size 65 11 v' (n + 7 + 1) (fmC (formsN n) ++ (fmA (formQ n)).toList)) (hg : X.grownBy Y v.ownBlock) (hv : v'.ownBlock = v.ownBlock ∨ v'.ownBlock = some X.heap.size) : FSt w Y g v' (n + 1) where
  own := by
    rw [formsN_succ, fmC_app, show n + 1 + 7 = n + 7 + 1 by omega]
    simpa [fmC] using ho
  bel := h.bel.grown hg h.bel.size (fun b hb => (h.own.lt b hb).1)
  nam := fun o hlt => (World.cell?_of_block (a := ⟨g, o, none⟩) (hg.block g h.lt (fun e => h.ne e.symm))).trans (h.nam o hlt)
  ne := by
    rcases hv with e | e
    · rw [e]; exact h.ne
    · rw [e]; intro e2; have := h.lt; injection e2 with e2; omega
  lt := Nat.lt_of_lt_of_le h.lt hg.size
def appF (t : Array TypeId) (r : TypeId) (xs : Array Value) : Sem Value := Builtin.append_ t r xs
theorem appF_seal (t : Array TypeId) (r : TypeId) (xs : Array Value) : Builtin.append_ t r xs = appF t r xs := rfl
attribute [local go_sem ↓] appF_seal
theorem infoFm : (Tryz.prog.info? 65).map (fun i => (i.zero, i.size, i.bytes)) = some (some (.agg (fmB ⟨#[]⟩ { F := 0, U := false, V := false, A := 0, B := 0, O := 0, C := 0, N := 0 } 0 false)), 11, 88) := by kernel_rfl
set_option maxHeartbeats 4000000 in
set_option maxRecDepth 20000 in
theorem rforms_any (w : World) :
    Calls Tryz.prog 30 #[] w fun e w' => ∃ v, e = .returned v ∧ w'.ownsRow w.heap.size 65 11 v 55 (fmC formsL) ∧ Below w.heap.size w w' := by
  have RN : Hid (∀ X, Calls Tryz.prog 55 #[] X _) := rnames_any
  obtain ⟨i0, hi0, hz0, hz1, hz2⟩ := info_parts infoFm
  go_enter Tryz.func30, Tryz.ntmps30
  go_wp2_with (go_at_call 55; refine (RN.out _).mono ?_; rintro e wn ⟨g, rfl, hg1, hg2, hcc, hbn⟩)
  have st0 : FSt w wn g (.slice (some ⟨w.heap.size, 0, none⟩) 7 7) 0 := ⟨own_call (own7 w w.heap.size (Nat.le_refl _)) hbn, (by go_grown : Below w.heap.size w (w.alloc (.cells row7 65))).trans (hbn.mono (by simp)), hcc, (by simp only [Value.ownBlock]; intro e; injection e with e; simp at hg1; omega), hg2⟩
  clear hcc hg1 hg2 hbn
  go_loopw [1, 3] (fun s1 x wr => ∃ k : Nat, k ≤ 12 ∧ x = .int .i64 k ∧ FSt w wr g s1 (4 * k)) (fun _ x _ => 12 - (intOf x).toNat)
  case atStart => exact ⟨0, by omega, rfl, st0⟩
  case round =>
    obtain ⟨k, hk, rfl, st⟩ := hrel
    have ST : Hid (FSt w wr g u1 (4 * k)) := st
    clear st0 st
    by_cases hlt : k < 12
    · have hd : decide ((k : Int) < 12) = true := by simp; omega
      obtain ⟨wo, rfl⟩ : ∃ wo, wo = wr := ⟨_, rfl⟩
      have hreg : ((k : Int) == 0) = true ∧ k = 0 ∨ ((k : Int) == 0) = false ∧ k ≠ 0 := by
        by_cases h : k = 0
        · left; exact ⟨by simp; omega, h⟩
        · right; exact ⟨by simp; omega, h⟩
      rcases hreg with ⟨hr, hk0⟩ | ⟨hr, hk0⟩
      · have HK0 : Hid (k = 0) := hk0
        clear hk0
        go_wp2
        go_loopw [1, 5, 6] (fun s1 x _ wr => ∃ j : Nat, j ≤ 4 ∧ x = .int .i64 j ∧ FSt w wr g s1 (4 * k + j)) (fun _ x _ _ => 4 - (intOf x).toNat)
        case atStart => exact ⟨0, by omega, rfl, ST.out⟩
        case round =>
          obtain ⟨j, hj, rfl, st⟩ := hrel
          have SJ : Hid (FSt w wr g u1 (4 * k + j)) := st
          clear st
          by_cases hj4 : j < 4
          · have hdj : decide ((j : Int) < 4) = true := by simp; omega
            obtain ⟨ub, hub⟩ : ∃ ub, ub = ((j : Int) % 2 == 1) := ⟨_, rfl⟩
            obtain ⟨vb, hvb⟩ : ∃ vb, vb = decide ((2 : Int) ≤ (j : Int)) := ⟨_, rfl⟩
            obtain ⟨q, hq⟩ : ∃ q, q = 4 * k + j := ⟨_, rfl⟩
            rw [← hq] at SJ
            have eQ : fmB (bs (opName (k : Int)) ++ bs (letP ub 85 ++ letP vb 86)) { F := 1, U := ub, V := vb, A := 0, B := 0, O := (k : Int), C := 0, N := 0 } 1 true = fmA (formQ q) := by
              have e1 : q / 4 = k := by omega
              have e2 : q % 4 = j := by omega
              have e3 : decide (j % 2 = 1) = ub := by
                rw [hub, Bool.eq_iff_iff, decide_eq_true_eq, beq_iff_eq]; omega
              have e4 : decide (2 ≤ j) = vb := by
                rw [hvb, Bool.eq_iff_iff, decide_eq_true_eq, decide_eq_true_eq]; omega
              rw [← fmB_eq]
              unfold formQ
              simp only [e1, e2, e3, e4, HK0.out, if_true, if_false, ← bs_app, List.append_assoc]
              rfl
            have HQ : Hid (fmB (bs (opName (k : Int)) ++ bs (letP ub 85 ++ letP vb 86)) { F := 1, U := ub, V := vb, A := 0, B := 0, O := (k : Int), C := 0, N := 0 } 1 true = fmA (formQ q) ∧ q = 4 * k + j) := ⟨eQ, hq⟩
            have hub2 := hub.symm
            have hvb2 := hvb.symm
            have hq47 : q ≤ 47 := by omega
            clear eQ hq hub hvb
            have hz1' : (bs (opName (k : Int))).size ≤ 4 := op_size k
            have hz2' : (bs (letP ub 85 ++ letP vb 86)).size ≤ 2 := by rw [bs_size]; cases ub <;> cases vb <;> decide
            have RM : Hid (∀ X, Calls Tryz.prog 56 #[.agg ({ F := 1, U := ub, V := vb, A := 0, B := 0, O := (k : Int), C := 0, N := 0 } : In).cells] X fun e w' => e = .returned (.string (bs (letP ub 85 ++ letP vb 86))) ∧ Below X.heap.size X w') := fun X => rmarks_any _ X
            go_wp2
            have STA := SJ.out.call (Y := (wr.alloc (.cells ({ F := 1, U := ub, V := vb, A := 0, B := 0, O := (k : Int), C := 0, N := 0 } : In).cells 52)).drew) (by go_grown)
            have hnk := STA.nam k (by omega)
            have hk16 : (k : Int) < 16 := by omega
            have hrw : rowAt (wr.alloc (.cells ({ F := 1, U := ub, V := vb, A := 0, B := 0, O := (k : Int), C := 0, N := 0 } : In).cells 52)).drew wr.heap.size = some ({ F := 1, U := ub, V := vb, A := 0, B := 0, O := (k : Int), C := 0, N := 0 } : In).cells := (rowAt_drew _ _).trans (rowAt_at _ _ _ _ _ rfl)
            have HST : Hid (FSt w _ g u1 q) := STA
            clear STA
            refine wp_region_held_drew (S := (fun w' => rowAt w' wr.heap.size = some ({ F := 1, U := ub, V := vb, A := 0, B := 0, O := (k : Int), C := 0, N := 0 } : In).cells ∧ w'.cell? ⟨g, k, none⟩ = some (.string (bs (opName (k : Int)))))) (by kernel_rfl) ⟨hrw, hnk⟩ (fun hHeld => ?_)
            clear hrw hnk
            refine wpAnyH_take (i := 0) (v := ?_) rfl (by kernel_rfl) (by kernel_rfl) (by kernel_rfl) (fun _ _ _ h => h) (Or.inl ⟨by rfl, ?y0a⟩) hHeld ?r0a
            case y0a => (intro w2 hSw; (try dsimp only at hSw); go_simp; try with_reducible rfl)
            simp only [Act.put, List.setIfInBounds_toArray, List.set_cons_zero, List.set_cons_succ]
            refine wpAnyH_take (i := 1) (v := ?_) rfl (by kernel_rfl) (by kernel_rfl) (by kernel_rfl) (fun _ _ _ h => h) (Or.inl ⟨by rfl, ?y1a⟩) hHeld ?r1a
            case y1a => (intro w2 hSw; (try dsimp only at hSw); go_simp; try with_reducible rfl)
            simp only [Act.put, List.setIfInBounds_toArray, List.set_cons_zero, List.set_cons_succ]
            refine wpAnyH_take (i := 2) (v := ?_) rfl (by kernel_rfl) (by kernel_rfl) (by kernel_rfl) (fun _ _ _ h => h) (Or.inl ⟨by rfl, ?y2a⟩) hHeld ?r2a
            case y2a => (intro w2 hSw; (try dsimp only at hSw); go_simp; try with_reducible rfl)
            simp only [Act.put, List.setIfInBounds_toArray, List.set_cons_zero, List.set_cons_succ]
            refine wpAnyH_take (i := 3) (v := ?_) rfl (by kernel_rfl) (by kernel_rfl) (by kernel_rfl) (fun _ _ _ h => h) (Or.inl ⟨by rfl, ?y3a⟩) hHeld ?r3a
            case y3a => (intro w2 hSw; (try dsimp only at hSw); go_simp; try rfl)
            simp only [Act.put, List.setIfInBounds_toArray, List.set_cons_zero, List.set_cons_succ]
            refine wpAnyH_take (i := 4) (v := ?_) rfl (by kernel_rfl) (by kernel_rfl) (by kernel_rfl) (fun _ _ _ h => h) (Or.inl ⟨by rfl, ?y4a⟩) hHeld ?r4a
            case y4a => (intro w2 hSw; (try dsimp only at hSw); go_simp; try with_reducible rfl)
            simp only [Act.put, List.setIfInBounds_toArray, List.set_cons_zero, List.set_cons_succ]
            refine wpAnyH_take (i := 5) (v := ?_) rfl (by kernel_rfl) (by kernel_rfl) (by kernel_rfl) (fun _ _ _ h => h) (Or.inl ⟨by rfl, ?y5a⟩) hHeld ?r5a
            case y5a => (intro w2 hSw; (try dsimp only at hSw); go_simp; try with_reducible rfl)
            simp only [Act.put, List.setIfInBounds_toArray, List.set_cons_zero, List.set_cons_succ]
            refine wpAnyH_take (i := 8) (v := ?_) rfl (by kernel_rfl) (by kernel_rfl) (by kernel_rfl) (fun _ _ _ h => h) (Or.inl ⟨by rfl, ?y8a⟩) hHeld ?r8a
            case y8a => (intro w2 hSw; (try dsimp only at hSw); go_simp; try with_reducible rfl)
            simp only [Act.put, List.setIfInBounds_toArray, List.set_cons_zero, List.set_cons_succ]
            refine wpAnyH_take (i := 9) (v := ?_) rfl (by kernel_rfl) (by kernel_rfl) (by kernel_rfl) (fun _ _ _ h => h) (Or.inl ⟨by rfl, ?y9a⟩) hHeld ?r9a
            case y9a => (intro w2 hSw; (try dsimp only at hSw); go_simp; try with_reducible rfl)
            simp only [Act.put, List.setIfInBounds_toArray, List.set_cons_zero, List.set_cons_succ]
            refine wpAnyH_ready (rs := [6]) (by kernel_rfl) (by simp) ?_
            refine AllReadyH.cons rfl (fun K hK => ?_) AllReadyH.nil
            go_simp
            go_wp2_with (go_at_call 56; refine (RM.out _).mono ?_; rintro e wm ⟨rfl, hbm⟩)
            have hHeld2 : rowAt wm wr.heap.size = some ({ F := 1, U := ub, V := vb, A := 0, B := 0, O := (k : Int), C := 0, N := 0 } : In).cells ∧ wm.cell? ⟨g, k, none⟩ = some (.string (bs (opName (k : Int)))) := ⟨(rowAt_below hbm _ (row_lt hHeld.1)).trans hHeld.1, cell_carry hHeld.2 hbm⟩
            have STM : Hid (FSt w wm g u1 q) := HST.out.call hbm
            refine hK.out _ _ hHeld2 (fun _ => ?_)
            clear hK K hHeld hbm HST
            have hHeld := hHeld2
            clear hHeld2
            refine wpAnyH_take (i := 7) (v := ?_) rfl (by kernel_rfl) (by kernel_rfl) (by kernel_rfl) (fun _ _ _ h => h) (Or.inl ⟨by rfl, ?y7a⟩) hHeld ?r7a
            case y7a => (intro w2 hSw; (try dsimp only at hSw); clear hSw; go_simp; rw [if_neg (by first | omega | (simp only [ByteArray.size_append]; omega) | (simp; omega))])
            simp only [Act.put, List.setIfInBounds_toArray, List.set_cons_zero, List.set_cons_succ]
            refine wpAnyH_take (i := 10) (v := ?_) rfl (by kernel_rfl) (by kernel_rfl) (by kernel_rfl) (fun _ _ _ h => h) (Or.inl ⟨by rfl, ?y10a⟩) hHeld ?r10a
            case y10a => (intro w2 hSw; (try dsimp only at hSw); go_simp; try with_reducible rfl)
            simp only [Act.put, List.setIfInBounds_toArray, List.set_cons_zero, List.set_cons_succ]
            have hown := STM.out.own
            have hfr : (wm.alloc (.cells (fmB (bs (opName (k : Int)) ++ bs (letP ub 85 ++ letP vb 86)) { F := 1, U := ub, V := vb, A := 0, B := 0, O := (k : Int), C := 0, N := 0 } 1 true) 65)).heap.size = wm.heap.size + 1 := by simp
            obtain ⟨v3, w3, hrun, hown3, hgrow3, _⟩ := run_append_own (P := Tryz.prog) (w := wm.alloc (.cells (fmB (bs (opName (k : Int)) ++ bs (letP ub 85 ++ letP vb 86)) { F := 1, U := ub, V := vb, A := 0, B := 0, O := (k : Int), C := 0, N := 0 } 1 true) 65)) w.heap.size 62 62 65 i0 _ 11 88 Tryz.underlying62 hi0 hz0 hz1 hz2 rfl (by decide) u1 (q + 7) _ (hown.alloc _) ⟨wm.heap.size, 0, none⟩ 1 1 (fmA (formQ q)).toList rfl (by rw [HQ.out.1]; exact row_cells _ _) (fm_one _) (by unfold maxLen; omega) (by omega) (by rw [hfr]; have := STM.out.bel.size; omega)
            have hblk := append_block (P := Tryz.prog) (w := wm.alloc (.cells (fmB (bs (opName (k : Int)) ++ bs (letP ub 85 ++ letP vb 86)) { F := 1, U := ub, V := vb, A := 0, B := 0, O := (k : Int), C := 0, N := 0 } 1 true) 65)) w.heap.size 62 62 65 i0 _ 11 88 Tryz.underlying62 hi0 hz0 hz1 hz2 u1 (q + 7) _ (hown.alloc _) ⟨wm.heap.size, 0, none⟩ 1 1 (fmA (formQ q)).toList (by omega) rfl (by rw [HQ.out.1]; exact row_cells _ _) (fm_one _) (by unfold maxLen; omega) (by omega) hrun
            have STN := FSt.grown (STM.out.call (Y := wm.alloc (.cells (fmB (bs (opName (k : Int)) ++ bs (letP ub 85 ++ letP vb 86)) { F := 1, U := ub, V := vb, A := 0, B := 0, O := (k : Int), C := 0, N := 0 } 1 true) 65)) (by go_grown)) hown3 hgrow3 hblk
            have hS1 : rowAt (wm.alloc (.cells (fmB (bs (opName (k : Int)) ++ bs (letP ub 85 ++ letP vb 86)) { F := 1, U := ub, V := vb, A := 0, B := 0, O := (k : Int), C := 0, N := 0 } 1 true) 65)) wr.heap.size = some ({ F := 1, U := ub, V := vb, A := 0, B := 0, O := (k : Int), C := 0, N := 0 } : In).cells ∧ (wm.alloc (.cells (fmB (bs (opName (k : Int)) ++ bs (letP ub 85 ++ letP vb 86)) { F := 1, U := ub, V := vb, A := 0, B := 0, O := (k : Int), C := 0, N := 0 } 1 true) 65)).cell? ⟨g, k, none⟩ = some (.string (bs (opName (k : Int)))) := by
              have hb : Below wm.heap.size wm (wm.alloc (.cells (fmB (bs (opName (k : Int)) ++ bs (letP ub 85 ++ letP vb 86)) { F := 1, U := ub, V := vb, A := 0, B := 0, O := (k : Int), C := 0, N := 0 } 1 true) 65)) := by go_grown
              exact ⟨(rowAt_below hb _ (row_lt hHeld.1)).trans hHeld.1, cell_carry hHeld.2 hb⟩
            have hne : u1.ownBlock ≠ some wr.heap.size := by
              rcases SJ.out.own.2 with ⟨h, _⟩ | ⟨b, cap, cur, h, _, hg, _⟩
              · rw [h]; simp [Value.ownBlock]
              · rw [h]
                have := (Array.getElem?_eq_some_iff.1 hg).1
                simp only [Value.ownBlock]
                intro e; injection e with e; omega
            have hS3 : rowAt w3 wr.heap.size = some ({ F := 1, U := ub, V := vb, A := 0, B := 0, O := (k : Int), C := 0, N := 0 } : In).cells ∧ w3.cell? ⟨g, k, none⟩ = some (.string (bs (opName (k : Int)))) := by
              refine ⟨?_, STN.nam k (by omega)⟩
              have e := hgrow3.block wr.heap.size (row_lt hS1.1) (fun e => hne e.symm)
              have := hS1.1
              unfold rowAt at this ⊢
              rw [e]; exact this
            refine wpAnyH_ready (rs := [11]) (by kernel_rfl) (by simp) ?_
            refine AllReadyH.cons rfl (fun K hK => ?_) AllReadyH.nil
            go_simp
            refine hK.out _ _ hS1 (fun _ => ?_)
            clear hK K
            rw [appF_seal] at hrun
            refine wpAnyH_ready (rs := [12]) (by kernel_rfl) (by simp) ?_
            refine AllReadyH.cons rfl (fun K hK => ?_) AllReadyH.nil
            go_simp
            refine hK.out _ _ hS3 (fun _ => ?_)
            clear hK K
            refine wpAnyH_ready (rs := [13]) (by kernel_rfl) (by simp) ?_
            refine AllReadyH.cons rfl (fun K hK => ?_) AllReadyH.nil
            go_simp
            refine hK.out _ _ hS3 (fun _ => ?_)
            clear hK K
            refine wpAnyH_done (by kernel_rfl) ?_ _
            have HN : Hid (FSt w w3 g v3 (4 * k + (j + 1))) := by
              have e : 4 * k + (j + 1) = q + 1 := by rw [HQ.out.2]; omega
              rw [e]; exact STN
            clear STN hS3 hS1 hrun hown3 hgrow3 hblk hHeld hown hne
            go_wp2
            go_roundw
            case rel => exact ⟨j + 1, by omega, by go_num, HN.out⟩
            case measure => simp [intOf]; omega
          · have hdj : decide ((j : Int) < 4) = false := by simp; omega
            have HE : Hid (FSt w wr g u1 (4 * (k + 1))) := by
              have e : 4 * k + j = 4 * (k + 1) := by omega
              rw [← e]; exact SJ.out
            go_wp2
            go_roundw
            case rel => exact ⟨k + 1, by omega, by go_num, HE.out⟩
            case measure => simp [intOf]; omega
      · have HK0 : Hid (k ≠ 0) := hk0
        clear hk0
        go_wp2
        go_loopw [1, 5, 6] (fun s1 x _ wr => ∃ j : Nat, j ≤ 4 ∧ x = .int .i64 j ∧ FSt w wr g s1 (4 * k + j)) (fun _ x _ _ => 4 - (intOf x).toNat)
        case atStart => exact ⟨0, by omega, rfl, ST.out⟩
        case round =>
          obtain ⟨j, hj, rfl, st⟩ := hrel
          have SJ : Hid (FSt w wr g u1 (4 * k + j)) := st
          clear st
          by_cases hj4 : j < 4
          · have hdj : decide ((j : Int) < 4) = true := by simp; omega
            obtain ⟨ub, hub⟩ : ∃ ub, ub = ((j : Int) % 2 == 1) := ⟨_, rfl⟩
            obtain ⟨vb, hvb⟩ : ∃ vb, vb = decide ((2 : Int) ≤ (j : Int)) := ⟨_, rfl⟩
            obtain ⟨q, hq⟩ : ∃ q, q = 4 * k + j := ⟨_, rfl⟩
            rw [← hq] at SJ
            have eQ : fmB (bs (opName (k : Int)) ++ bs (letP ub 85 ++ letP vb 86)) { F := 1, U := ub, V := vb, A := 0, B := 0, O := (k : Int), C := 0, N := 0 } 2 true = fmA (formQ q) := by
              have e1 : q / 4 = k := by omega
              have e2 : q % 4 = j := by omega
              have e3 : decide (j % 2 = 1) = ub := by
                rw [hub, Bool.eq_iff_iff, decide_eq_true_eq, beq_iff_eq]; omega
              have e4 : decide (2 ≤ j) = vb := by
                rw [hvb, Bool.eq_iff_iff, decide_eq_true_eq, decide_eq_true_eq]; omega
              rw [← fmB_eq]
              unfold formQ
              simp only [e1, e2, e3, e4, HK0.out, if_true, if_false, ← bs_app, List.append_assoc]
              rfl
            have HQ : Hid (fmB (bs (opName (k : Int)) ++ bs (letP ub 85 ++ letP vb 86)) { F := 1, U := ub, V := vb, A := 0, B := 0, O := (k : Int), C := 0, N := 0 } 2 true = fmA (formQ q) ∧ q = 4 * k + j) := ⟨eQ, hq⟩
            have hub2 := hub.symm
            have hvb2 := hvb.symm
            have hq47 : q ≤ 47 := by omega
            clear eQ hq hub hvb
            have hz1' : (bs (opName (k : Int))).size ≤ 4 := op_size k
            have hz2' : (bs (letP ub 85 ++ letP vb 86)).size ≤ 2 := by rw [bs_size]; cases ub <;> cases vb <;> decide
            have RM : Hid (∀ X, Calls Tryz.prog 56 #[.agg ({ F := 1, U := ub, V := vb, A := 0, B := 0, O := (k : Int), C := 0, N := 0 } : In).cells] X fun e w' => e = .returned (.string (bs (letP ub 85 ++ letP vb 86))) ∧ Below X.heap.size X w') := fun X => rmarks_any _ X
            go_wp2
            have STA := SJ.out.call (Y := (wr.alloc (.cells ({ F := 1, U := ub, V := vb, A := 0, B := 0, O := (k : Int), C := 0, N := 0 } : In).cells 52)).drew) (by go_grown)
            have hnk := STA.nam k (by omega)
            have hk16 : (k : Int) < 16 := by omega
            have hrw : rowAt (wr.alloc (.cells ({ F := 1, U := ub, V := vb, A := 0, B := 0, O := (k : Int), C := 0, N := 0 } : In).cells 52)).drew wr.heap.size = some ({ F := 1, U := ub, V := vb, A := 0, B := 0, O := (k : Int), C := 0, N := 0 } : In).cells := (rowAt_drew _ _).trans (rowAt_at _ _ _ _ _ rfl)
            have HST : Hid (FSt w _ g u1 q) := STA
            clear STA
            refine wp_region_held_drew (S := (fun w' => rowAt w' wr.heap.size = some ({ F := 1, U := ub, V := vb, A := 0, B := 0, O := (k : Int), C := 0, N := 0 } : In).cells ∧ w'.cell? ⟨g, k, none⟩ = some (.string (bs (opName (k : Int)))))) (by kernel_rfl) ⟨hrw, hnk⟩ (fun hHeld => ?_)
            clear hrw hnk
            refine wpAnyH_take (i := 0) (v := ?_) rfl (by kernel_rfl) (by kernel_rfl) (by kernel_rfl) (fun _ _ _ h => h) (Or.inl ⟨by rfl, ?y0b⟩) hHeld ?r0b
            case y0b => (intro w2 hSw; (try dsimp only at hSw); go_simp; try with_reducible rfl)
            simp only [Act.put, List.setIfInBounds_toArray, List.set_cons_zero, List.set_cons_succ]
            refine wpAnyH_take (i := 1) (v := ?_) rfl (by kernel_rfl) (by kernel_rfl) (by kernel_rfl) (fun _ _ _ h => h) (Or.inl ⟨by rfl, ?y1b⟩) hHeld ?r1b
            case y1b => (intro w2 hSw; (try dsimp only at hSw); go_simp; try with_reducible rfl)
            simp only [Act.put, List.setIfInBounds_toArray, List.set_cons_zero, List.set_cons_succ]
            refine wpAnyH_take (i := 2) (v := ?_) rfl (by kernel_rfl) (by kernel_rfl) (by kernel_rfl) (fun _ _ _ h => h) (Or.inl ⟨by rfl, ?y2b⟩) hHeld ?r2b
            case y2b => (intro w2 hSw; (try dsimp only at hSw); go_simp; try with_reducible rfl)
            simp only [Act.put, List.setIfInBounds_toArray, List.set_cons_zero, List.set_cons_succ]
            refine wpAnyH_take (i := 3) (v := ?_) rfl (by kernel_rfl) (by kernel_rfl) (by kernel_rfl) (fun _ _ _ h => h) (Or.inl ⟨by rfl, ?y3b⟩) hHeld ?r3b
            case y3b => (intro w2 hSw; (try dsimp only at hSw); go_simp; try rfl)
            simp only [Act.put, List.setIfInBounds_toArray, List.set_cons_zero, List.set_cons_succ]
            refine wpAnyH_take (i := 4) (v := ?_) rfl (by kernel_rfl) (by kernel_rfl) (by kernel_rfl) (fun _ _ _ h => h) (Or.inl ⟨by rfl, ?y4b⟩) hHeld ?r4b
            case y4b => (intro w2 hSw; (try dsimp only at hSw); go_simp; try with_reducible rfl)
            simp only [Act.put, List.setIfInBounds_toArray, List.set_cons_zero, List.set_cons_succ]
            refine wpAnyH_take (i := 5) (v := ?_) rfl (by kernel_rfl) (by kernel_rfl) (by kernel_rfl) (fun _ _ _ h => h) (Or.inl ⟨by rfl, ?y5b⟩) hHeld ?r5b
            case y5b => (intro w2 hSw; (try dsimp only at hSw); go_simp; try with_reducible rfl)
            simp only [Act.put, List.setIfInBounds_toArray, List.set_cons_zero, List.set_cons_succ]
            refine wpAnyH_take (i := 8) (v := ?_) rfl (by kernel_rfl) (by kernel_rfl) (by kernel_rfl) (fun _ _ _ h => h) (Or.inl ⟨by rfl, ?y8b⟩) hHeld ?r8b
            case y8b => (intro w2 hSw; (try dsimp only at hSw); go_simp; try with_reducible rfl)
            simp only [Act.put, List.setIfInBounds_toArray, List.set_cons_zero, List.set_cons_succ]
            refine wpAnyH_take (i := 9) (v := ?_) rfl (by kernel_rfl) (by kernel_rfl) (by kernel_rfl) (fun _ _ _ h => h) (Or.inl ⟨by rfl, ?y9b⟩) hHeld ?r9b
            case y9b => (intro w2 hSw; (try dsimp only at hSw); go_simp; try with_reducible rfl)
            simp only [Act.put, List.setIfInBounds_toArray, List.set_cons_zero, List.set_cons_succ]
            refine wpAnyH_ready (rs := [6]) (by kernel_rfl) (by simp) ?_
            refine AllReadyH.cons rfl (fun K hK => ?_) AllReadyH.nil
            go_simp
            go_wp2_with (go_at_call 56; refine (RM.out _).mono ?_; rintro e wm ⟨rfl, hbm⟩)
            have hHeld2 : rowAt wm wr.heap.size = some ({ F := 1, U := ub, V := vb, A := 0, B := 0, O := (k : Int), C := 0, N := 0 } : In).cells ∧ wm.cell? ⟨g, k, none⟩ = some (.string (bs (opName (k : Int)))) := ⟨(rowAt_below hbm _ (row_lt hHeld.1)).trans hHeld.1, cell_carry hHeld.2 hbm⟩
            have STM : Hid (FSt w wm g u1 q) := HST.out.call hbm
            refine hK.out _ _ hHeld2 (fun _ => ?_)
            clear hK K hHeld hbm HST
            have hHeld := hHeld2
            clear hHeld2
            refine wpAnyH_take (i := 7) (v := ?_) rfl (by kernel_rfl) (by kernel_rfl) (by kernel_rfl) (fun _ _ _ h => h) (Or.inl ⟨by rfl, ?y7b⟩) hHeld ?r7b
            case y7b => (intro w2 hSw; (try dsimp only at hSw); clear hSw; go_simp; rw [if_neg (by first | omega | (simp only [ByteArray.size_append]; omega) | (simp; omega))])
            simp only [Act.put, List.setIfInBounds_toArray, List.set_cons_zero, List.set_cons_succ]
            refine wpAnyH_take (i := 10) (v := ?_) rfl (by kernel_rfl) (by kernel_rfl) (by kernel_rfl) (fun _ _ _ h => h) (Or.inl ⟨by rfl, ?y10b⟩) hHeld ?r10b
            case y10b => (intro w2 hSw; (try dsimp only at hSw); go_simp; try with_reducible rfl)
            simp only [Act.put, List.setIfInBounds_toArray, List.set_cons_zero, List.set_cons_succ]
            have hown := STM.out.own
            have hfr : (wm.alloc (.cells (fmB (bs (opName (k : Int)) ++ bs (letP ub 85 ++ letP vb 86)) { F := 1, U := ub, V := vb, A := 0, B := 0, O := (k : Int), C := 0, N := 0 } 2 true) 65)).heap.size = wm.heap.size + 1 := by simp
            obtain ⟨v3, w3, hrun, hown3, hgrow3, _⟩ := run_append_own (P := Tryz.prog) (w := wm.alloc (.cells (fmB (bs (opName (k : Int)) ++ bs (letP ub 85 ++ letP vb 86)) { F := 1, U := ub, V := vb, A := 0, B := 0, O := (k : Int), C := 0, N := 0 } 2 true) 65)) w.heap.size 62 62 65 i0 _ 11 88 Tryz.underlying62 hi0 hz0 hz1 hz2 rfl (by decide) u1 (q + 7) _ (hown.alloc _) ⟨wm.heap.size, 0, none⟩ 1 1 (fmA (formQ q)).toList rfl (by rw [HQ.out.1]; exact row_cells _ _) (fm_one _) (by unfold maxLen; omega) (by omega) (by rw [hfr]; have := STM.out.bel.size; omega)
            have hblk := append_block (P := Tryz.prog) (w := wm.alloc (.cells (fmB (bs (opName (k : Int)) ++ bs (letP ub 85 ++ letP vb 86)) { F := 1, U := ub, V := vb, A := 0, B := 0, O := (k : Int), C := 0, N := 0 } 2 true) 65)) w.heap.size 62 62 65 i0 _ 11 88 Tryz.underlying62 hi0 hz0 hz1 hz2 u1 (q + 7) _ (hown.alloc _) ⟨wm.heap.size, 0, none⟩ 1 1 (fmA (formQ q)).toList (by omega) rfl (by rw [HQ.out.1]; exact row_cells _ _) (fm_one _) (by unfold maxLen; omega) (by omega) hrun
            have STN := FSt.grown (STM.out.call (Y := wm.alloc (.cells (fmB (bs (opName (k : Int)) ++ bs (letP ub 85 ++ letP vb 86)) { F := 1, U := ub, V := vb, A := 0, B := 0, O := (k : Int), C := 0, N := 0 } 2 true) 65)) (by go_grown)) hown3 hgrow3 hblk
            have hS1 : rowAt (wm.alloc (.cells (fmB (bs (opName (k : Int)) ++ bs (letP ub 85 ++ letP vb 86)) { F := 1, U := ub, V := vb, A := 0, B := 0, O := (k : Int), C := 0, N := 0 } 2 true) 65)) wr.heap.size = some ({ F := 1, U := ub, V := vb, A := 0, B := 0, O := (k : Int), C := 0, N := 0 } : In).cells ∧ (wm.alloc (.cells (fmB (bs (opName (k : Int)) ++ bs (letP ub 85 ++ letP vb 86)) { F := 1, U := ub, V := vb, A := 0, B := 0, O := (k : Int), C := 0, N := 0 } 2 true) 65)).cell? ⟨g, k, none⟩ = some (.string (bs (opName (k : Int)))) := by
              have hb : Below wm.heap.size wm (wm.alloc (.cells (fmB (bs (opName (k : Int)) ++ bs (letP ub 85 ++ letP vb 86)) { F := 1, U := ub, V := vb, A := 0, B := 0, O := (k : Int), C := 0, N := 0 } 2 true) 65)) := by go_grown
              exact ⟨(rowAt_below hb _ (row_lt hHeld.1)).trans hHeld.1, cell_carry hHeld.2 hb⟩
            have hne : u1.ownBlock ≠ some wr.heap.size := by
              rcases SJ.out.own.2 with ⟨h, _⟩ | ⟨b, cap, cur, h, _, hg, _⟩
              · rw [h]; simp [Value.ownBlock]
              · rw [h]
                have := (Array.getElem?_eq_some_iff.1 hg).1
                simp only [Value.ownBlock]
                intro e; injection e with e; omega
            have hS3 : rowAt w3 wr.heap.size = some ({ F := 1, U := ub, V := vb, A := 0, B := 0, O := (k : Int), C := 0, N := 0 } : In).cells ∧ w3.cell? ⟨g, k, none⟩ = some (.string (bs (opName (k : Int)))) := by
              refine ⟨?_, STN.nam k (by omega)⟩
              have e := hgrow3.block wr.heap.size (row_lt hS1.1) (fun e => hne e.symm)
              have := hS1.1
              unfold rowAt at this ⊢
              rw [e]; exact this
            refine wpAnyH_ready (rs := [11]) (by kernel_rfl) (by simp) ?_
            refine AllReadyH.cons rfl (fun K hK => ?_) AllReadyH.nil
            go_simp
            refine hK.out _ _ hS1 (fun _ => ?_)
            clear hK K
            rw [appF_seal] at hrun
            refine wpAnyH_ready (rs := [12]) (by kernel_rfl) (by simp) ?_
            refine AllReadyH.cons rfl (fun K hK => ?_) AllReadyH.nil
            go_simp
            refine hK.out _ _ hS3 (fun _ => ?_)
            clear hK K
            refine wpAnyH_ready (rs := [13]) (by kernel_rfl) (by simp) ?_
            refine AllReadyH.cons rfl (fun K hK => ?_) AllReadyH.nil
            go_simp
            refine hK.out _ _ hS3 (fun _ => ?_)
            clear hK K
            refine wpAnyH_done (by kernel_rfl) ?_ _
            have HN : Hid (FSt w w3 g v3 (4 * k + (j + 1))) := by
              have e : 4 * k + (j + 1) = q + 1 := by rw [HQ.out.2]; omega
              rw [e]; exact STN
            clear STN hS3 hS1 hrun hown3 hgrow3 hblk hHeld hown hne
            go_wp2
            go_roundw
            case rel => exact ⟨j + 1, by omega, by go_num, HN.out⟩
            case measure => simp [intOf]; omega
          · have hdj : decide ((j : Int) < 4) = false := by simp; omega
            have HE : Hid (FSt w wr g u1 (4 * (k + 1))) := by
              have e : 4 * k + j = 4 * (k + 1) := by omega
              rw [← e]; exact SJ.out
            go_wp2
            go_roundw
            case rel => exact ⟨k + 1, by omega, by go_num, HE.out⟩
            case measure => simp [intOf]; omega
    · have hd : decide ((k : Int) < 12) = false := by simp; omega
      have HE : Hid (k = 12) := by show k = 12; omega
      go_wp2
      go_ret
      refine ⟨_, rfl, ?_, ST.out.bel⟩
      have := ST.out.own
      rw [HE.out] at this
      exact this
end Go.Proofs.YtmldlkcgaepaaaaGreatDoor
