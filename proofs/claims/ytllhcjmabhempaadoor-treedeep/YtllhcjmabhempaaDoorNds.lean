/-
  Layer 9: nodes that are made; a sign between two operands.
-/
import Derived.Test.YtllhcjmabhempaaDoorSm2
import Derived.Deep.Cut
import Derived.Deep.CutRange
import Derived.Deep.DeepCutAuto
namespace Go.Proofs.YtllhcjmabhempaaDoor
set_option linter.unusedVariables false
set_option linter.unusedSimpArgs false
open Go.ChangeShapes Go.WideShapes Go.ChangeAt Go.RowKit


attribute [local go_sem] fieldTk0 fieldTk3

/-- What a reading function leaves: a tree in new memory, and the reader behind it; or what it gave up by. -/
def PostN (w : World) (b g cap : Nat) (L : List Tok) (i o : Nat) (r : Rs Nd) (e : Ending) (w' : World) : Prop := match r with
  | .ok n t => ∃ c i', e = .returned (.agg (Nc.cells c)) ∧ t = L.drop i' ∧ i < i' ∧ St w w' b g cap L i' o ∧ NdAt w' (fun x => w.heap.size ≤ x) c n
  | .bad p er => e = gaveUp p er ∧ w.grownBy w' (some b)
set_option maxHeartbeats 1000000 in
set_option maxRecDepth 20000 in
theorem node_any (w : World) (k p : Int) (a : Option Addr) (l m : Nat) :
    Calls Tryd.prog 59 #[.int .i64 k, .int .i64 p, .slice a l m] w fun e w' => e = .returned (.agg ({ k := k, t := ⟨#[]⟩, n := 0, f := false, a := a, l := l, m := m, p := p } : Nc).cells) ∧ Below w.heap.size w w' := by
  go_enter Tryd.func59, Tryd.ntmps59
  go_wp2
  exact ret_cell1 rfl rfl (loadNd_row (c := { k := k, t := ⟨#[]⟩, n := 0, f := false, a := a, l := l, m := m, p := p }) (by simp [go_sem])) rfl ⟨rfl, by go_grown⟩
def bslNd (n : Nat) (parts : Array (Nat × Value)) : Sem Value := Instr.buildSlice 29 n parts
theorem bslNd_seal (n : Nat) (parts : Array (Nat × Value)) : Instr.buildSlice 29 n parts = bslNd n parts := rfl
theorem bslNd1_run (c : Nc) (X : World) : (bslNd 1 #[(0, .agg c.cells)]).run Tryd.prog X = .ok (.slice (some ⟨X.heap.size, 0, none⟩) 1 1) (X.alloc (.cells c.cells 31)) := by kernel_rfl
theorem bslNd2_run (c d : Nc) (X : World) : (bslNd 2 #[(0, .agg c.cells), (1, .agg d.cells)]).run Tryd.prog X = .ok (.slice (some ⟨X.heap.size, 0, none⟩) 2 2) (X.alloc (.cells (c.cells ++ d.cells) 31)) := by kernel_rfl
attribute [local go_sem ↓] bslNd_seal
attribute [local go_sem] bslNd1_run bslNd2_run
theorem hmf (fn : Fn) (first c : Array Value) (w : World) : (Instr.makeFunc fn first c).run Tryd.prog w = .ok (.func fn first c) w := rfl
theorem row_lt {w : World} {b : Nat} {X : Array Value} (h : rowAt w b = some X) : b < w.heap.size := by
  unfold rowAt at h
  split at h
  · rename_i hb; exact (Array.getElem?_eq_some_iff.1 hb).1
  · cases h
/-- A kid's cells in a row of two. -/
theorem two0 (c d : Nc) (j : Nat) (h : j < 6) : (c.cells ++ d.cells)[0 * 6 + j]? = c.cells[j]? := by
  rw [Array.getElem?_append_left (by rw [Nc.size]; omega)]; simp
theorem two1 (c d : Nc) (j : Nat) (h : j < 6) : (c.cells ++ d.cells)[1 * 6 + j]? = d.cells[j]? := by
  rw [Array.getElem?_append_right (by rw [Nc.size]; omega), Nc.size]; congr 1; omega
/-- A tree is kept over a step of the reader. -/
theorem NdAt.step {w w' : World} {B b g cap i o : Nat} {L : List Tok} {c : Nc} {n : Nd} (h : NdAt w (fun x => B ≤ x) c n) (hb : b < B) (hs : w.grownBy w' (some b)) : NdAt w' (fun x => B ≤ x) c n :=
  h.keep (fun _ hx _ => hx) hs.size (fun x hx hl => hs.block x hl (fun e => by injection e with e; omega))
theorem NdAt.stepP {w w' : World} {P : Nat → Prop} {b : Nat} {c : Nc} {n : Nd} (h : NdAt w P c n) (hb : ∀ x, P x → x ≠ b) (hs : w.grownBy w' (some b)) : NdAt w' P c n :=
  h.keep (fun _ hx _ => hx) hs.size (fun x hx hl => hs.block x hl (fun e => by injection e with e; exact hb x hx e))
theorem NdAt.mono {w : World} {B B' : Nat} {c : Nc} {n : Nd} (h : NdAt w (fun x => B ≤ x) c n) (hB : B' ≤ B) : NdAt w (fun x => B' ≤ x) c n := h.keep (fun _ hx _ => Nat.le_trans hB hx) (Nat.le_refl _) (fun _ _ _ => rfl)
theorem NdAt.put {w : World} {B q : Nat} {c : Nc} {n : Nd} {X : Array Value} (h : NdAt w (fun x => B ≤ x ∧ x ≠ q) c n) : NdAt (putRow w q X) (fun x => B ≤ x ∧ x ≠ q) c n := h.keep (fun _ hx _ => hx) (by rw [size_put]; exact Nat.le_refl _) (fun x hx hl => put_far _ _ _ _ hx.2)
theorem St.far {w w1 : World} {b g cap i o : Nat} {L : List Tok} (h : St w w1 b g cap L i o) (hb : b < w.heap.size) (hg : g < w.heap.size) (q j : Nat) (hq : w.heap.size ≤ q) (v : Value) : St w (w1.setCell ⟨q, j, none⟩ v) b g cap L i o :=
  ⟨h.rd.same (Below.heap_setCell _ _ _ _ (by show b ≠ q; omega)) (Below.heap_setCell _ _ _ _ (by show g ≠ q; omega)) (by simp), ⟨h.gb.os, h.gb.tape, h.gb.output, by simpa using h.gb.size, fun k hk hne => (Below.heap_setCell _ _ _ _ (by show k ≠ q; omega)).trans (h.gb.block k hk hne)⟩⟩
theorem hold_gb {X Y : World} {b q7 q4 : Nat} {u v : Array Value} (h : rowAt X q7 = some u ∧ rowAt X q4 = some v) (hg : X.grownBy Y (some b)) (h7 : q7 ≠ b) (h4 : q4 ≠ b) : rowAt Y q7 = some u ∧ rowAt Y q4 = some v := by
  have e7 := hg.block q7 (row_lt h.1) (fun e => h7 (by injection e))
  have e4 := hg.block q4 (row_lt h.2) (fun e => h4 (by injection e))
  refine ⟨?_, ?_⟩
  · have := h.1; unfold rowAt at this ⊢; rw [e7]; exact this
  · have := h.2; unfold rowAt at this ⊢; rw [e4]; exact this
theorem room_gb {X Y : World} {b q : Nat} (hg : X.grownBy Y (some b)) (hq : q < X.heap.size) (hb : q ≠ b) (n : Nat) : roomAt Y q n = roomAt X q n := by unfold roomAt; rw [hg.block q hq (fun e => hb (by injection e))]
theorem row_far (w : World) (b b' : Nat) (X : Array Value) (hb : b' ≠ b) : rowAt (putRow w b X) b' = rowAt w b' := by unfold rowAt; rw [put_far _ _ _ _ hb]
theorem room_far (w : World) (b b' n : Nat) (X : Array Value) (hb : b' ≠ b) : roomAt (putRow w b X) b' n = roomAt w b' n := by unfold roomAt; rw [put_far _ _ _ _ hb]
theorem room_keep {X : World} {q n : Nat} (h : roomAt X q n = true) (c : Array Value) (hc : c.size = n) : roomAt (putRow X q c) q n = true := by
  unfold roomAt at h
  split at h
  · rename_i Y t fr hb
    simp only [Bool.and_eq_true, beq_iff_eq] at h
    rw [putRow_eq]
    unfold roomAt
    rw [setCells_heap _ _ _ _ hb, putList_all c Y (by rw [h.1, hc])]
    simp [h.2, hc]
  · cases h
theorem heap_new' (w : World) (o : Obj) {k : Nat} (hk : k = w.heap.size) : (w.alloc o).heap[k]? = some o := by rw [hk]; exact heap_alloc_new w o
theorem bin_made {Y : World} {P : Nat → Prop} {blk : Nat} {c d : Nc} {n1 n2 : Nd} {tk : Tok} (hP : P blk) (hb : Y.heap[blk]? = some (.cells (c.cells ++ d.cells) 31 (0, 0))) (h1 : NdAt Y P c n1) (h2 : NdAt Y P d n2) : NdAt Y P ⟨37, bs tk.t, 0, false, some ⟨blk, 0, none⟩, 2, 2, (tk.p : Int)⟩ (binN tk n1 n2) := by
  have hl : blk < Y.heap.size := (Array.getElem?_eq_some_iff.1 hb).1
  refine NdAt.mk 37 tk.t 0 false [n1, n2] tk.p _ 2 (KidsAt.cons blk 0 c n1 [n2] hP hl (fun i hi => ?_) h1 (KidsAt.cons blk 1 d n2 [] hP hl (fun i hi => ?_) h2 (KidsAt.nil _ _)))
  · rw [← two0 c d i hi]; simp [World.cell?, hb]
  · rw [← two1 c d i hi]; simp [World.cell?, hb]
/-- A relation, a sum, a product, made of a sign and its two operands. -/
def BinAt (w Y : World) (b g cap : Nat) (L : List Tok) (o : Nat) (P : Nat → Prop) (tk : Tok) (n1 n2 : Nd) (t2 : List Tok) (i : Nat) (q7 q : Nat) : Prop := ∃ blk i', St w Y b g cap L i' o ∧ t2 = L.drop i' ∧ i + 1 < i' ∧ rowAt Y q = some (⟨37, ⟨#[]⟩, 0, false, some ⟨blk, 0, none⟩, 2, 2, (tk.p : Int)⟩ : Nc).cells ∧ roomAt Y q 6 = true ∧ roomAt Y (w.heap.size + 1) 6 = true ∧ rowAt Y q7 = some tk.tk.cells ∧ w.heap.size + 1 < q ∧ NdAt Y (fun x => P x ∧ x ≠ q ∧ x ≠ w.heap.size + 1) ⟨37, bs tk.t, 0, false, some ⟨blk, 0, none⟩, 2, 2, (tk.p : Int)⟩ (binN tk n1 n2)
set_option maxHeartbeats 4000000 in
set_option maxRecDepth 20000 in
theorem binary_ok_simple (w : World) (b g cap : Nat) (L : List Tok) (i o : Nat) (h : RdAt w b g cap L i o) (hk : (hd (L.drop i)).k ≠ 0) (c : Nc) (P : Nat → Prop) (hP1 : ∀ x, P x → x ≠ b) (hP2 : ∀ x, w.heap.size ≤ x → P x) (n1 n2 : Nd) (t2 : List Tok) (hc : NdAt w P c n1)
    (hF : ∀ X, RdAt X b g cap L (i + 1) o → Calls Tryd.prog 43 #[.pointer (some ⟨b, 0, none⟩)] X (PostN X b g cap L (i + 1) o (.ok n2 t2))) :
    Calls Tryd.prog 45 #[.pointer (some ⟨b, 0, none⟩), .agg c.cells, .func (.func 43) #[.pointer (some ⟨b, 0, none⟩)] #[]] w fun e w' => ∃ c' i', e = .returned (.agg (Nc.cells c')) ∧ t2 = L.drop i' ∧ i + 1 < i' ∧ St w w' b g cap L i' o ∧ NdAt w' P c' (binN (hd (L.drop i)) n1 n2) := by
  have PA : Hid (∀ X, RdAt X b g cap L i o → Calls Tryd.prog 52 #[.pointer (some ⟨b, 0, none⟩)] X _) := fun X hX => pass_any X b g cap L i o hX hk
  have H : Hid (RdAt w b g cap L i o) := h
  have HF : Hid (∀ X, RdAt X b g cap L (i + 1) o → Calls Tryd.prog 43 #[.pointer (some ⟨b, 0, none⟩)] X (PostN X b g cap L (i + 1) o (.ok n2 t2))) := hF
  have HC : Hid (NdAt w P c n1) := hc
  have bl := h.bl
  have gl := h.gl
  clear h hk hF hc
  obtain ⟨tk, htk⟩ : ∃ tk, tk = hd (L.drop i) := ⟨_, rfl⟩
  rw [← htk] at PA ⊢
  clear htk
  go_enter Tryd.func45, Tryd.ntmps45
  go_upto_region 2 with (go_at_call 52; refine (PA.out _ ((H.out.alloc _).alloc _)).mono ?_; rintro e w2 ⟨rfl, s2⟩)
  have S2 : St w w2 b g cap L (i + 1) o := (((St.refl H.out).alloc _).alloc _).next s2
  have hs2 := s2.size
  simp at hs2
  have r4 : rowAt w2 w.heap.size = some c.cells := (s2.row (by simp; omega) (by omega)).trans ((rowAt_old _ _ _ (by simp)).trans (rowAt_at _ _ _ _ _ rfl))
  have p6 : roomAt w2 (w.heap.size + 1) 6 = true := (s2.room (by simp) (by omega) 6).trans (roomNd_new _ _ _ _ (by simp))
  have S3 := (S2.alloc (.cells tk.tk.cells 41)).drew
  have hq7 : w2.heap.size ≠ b := by omega
  have hq4 : w.heap.size ≠ b := by omega
  go_cut [8] (fun s8 Y => ∃ q, s8 = .pointer (some ⟨q, 0, none⟩) ∧ BinAt w Y b g cap L o P tk n1 n2 t2 i w2.heap.size q)
  case first =>
    refine wp_region_held_drew (S := (fun X => rowAt X w2.heap.size = some tk.tk.cells ∧ rowAt X w.heap.size = some c.cells)) (by kernel_rfl) ⟨(rowAt_drew _ _).trans (rowAt_at _ _ _ _ _ rfl), (rowAt_drew _ _).trans ((rowAt_old _ _ _ (by omega)).trans r4)⟩ (fun hHeld => ?_)
    refine wpAnyH_take (i := 0) (v := ?_) rfl (by kernel_rfl) (by kernel_rfl) (by kernel_rfl) (fun _ _ _ h => h) (Or.inl ⟨by rfl, ?y0⟩) hHeld ?r0
    case y0 => (intro w2 hSw; (try dsimp only at hSw); go_simp; try rfl)
    simp only [Act.put, List.setIfInBounds_toArray, List.set_cons_zero, List.set_cons_succ]
    refine wpAnyH_take (i := 1) (v := ?_) rfl (by kernel_rfl) (by kernel_rfl) (by kernel_rfl) (fun _ _ _ h => h) (Or.inl ⟨by rfl, ?y1⟩) hHeld ?r1
    case y1 => (intro w2 hSw; (try dsimp only at hSw); have c3 := rowAt_cell hSw.1 3; go_simp; try rfl)
    simp only [Act.put, List.setIfInBounds_toArray, List.set_cons_zero, List.set_cons_succ]
    refine wpAnyH_take (i := 2) (v := ?_) rfl (by kernel_rfl) (by kernel_rfl) (by kernel_rfl) (fun _ _ _ h => h) (Or.inl ⟨by rfl, ?y2⟩) hHeld ?r2
    case y2 => (intro w2 hSw; (try dsimp only at hSw); go_simp; try rfl)
    simp only [Act.put, List.setIfInBounds_toArray, List.set_cons_zero, List.set_cons_succ]
    refine wpAnyH_take (i := 3) (v := ?_) rfl (by kernel_rfl) (by kernel_rfl) (by kernel_rfl) (fun _ _ _ h => h) (Or.inl ⟨by rfl, ?y3⟩) hHeld ?r3
    case y3 => (intro w2 hSw; (try dsimp only at hSw); go_simp; try rfl)
    simp only [Act.put, List.setIfInBounds_toArray, List.set_cons_zero, List.set_cons_succ]
    refine wpAnyH_ready (rs := [4, 7]) (by kernel_rfl) (by simp) ?_
    refine .cons rfl (fun K hK => ?_) (.cons rfl (fun K hK => ?_) .nil)
    · go_simp
      go_wp2_with (go_at_call 43; refine (HF.out _ S3.rd).mono ?_; rintro e w5 ⟨c5, i5, rfl, ht5, hi5, s5, n5⟩)
      have g1 : ((w2.alloc (.cells tk.tk.cells 41)).drew).grownBy (w5) (some b) := s5.gb
      have z5 := g1.size
      simp at z5
      have hh2 := hold_gb hHeld g1 hq7 hq4
      refine hK.out _ _ hh2 (fun _ => ?_)
      clear hK K
      have S3 := S3.next s5
      refine wpAnyH_ready (rs := [5, 7]) (by kernel_rfl) (by simp) ?_
      refine .cons rfl (fun K hK => ?_) (.cons rfl (fun K hK => ?_) .nil)
      · go_simp
        have g4 : (w5).grownBy ((w5).alloc (.cells (c.cells ++ c5.cells) 31)) (some b) := gb_of_below (by go_grown) b
        have hh5 := hold_gb hh2 g4 hq7 hq4
        refine hK.out _ _ hh5 (fun _ => ?_)
        clear hK K
        have S6 := S3.alloc (.cells (c.cells ++ c5.cells) 31)
        refine wpAnyH_ready (rs := [6, 7]) (by kernel_rfl) (by simp) ?_
        refine .cons rfl (fun K hK => ?_) (.cons rfl (fun K hK => ?_) .nil)
        · go_simp
          go_wp2_with (go_at_call 59; refine (node_any _ _ _ _ _ _).mono ?_; rintro e w6 ⟨rfl, hb6⟩)
          have g7 : ((w5).alloc (.cells (c.cells ++ c5.cells) 31)).grownBy (w6) (some b) := gb_of_below hb6 b
          have z6 := g7.size
          simp at z6
          have hh8 := hold_gb hh5 g7 hq7 hq4
          refine hK.out _ _ hh8 (fun _ => ?_)
          clear hK K
          have S9 := S6.below hb6
          refine wpAnyH_ready (rs := [7]) (by kernel_rfl) (by simp) ?_
          refine .cons rfl (fun K hK => ?_) .nil
          go_simp
          have g10 : (w6).grownBy ((w6).alloc (.cells (⟨0, ⟨#[]⟩, 0, false, none, 0, 0, 0⟩ : Nc).cells 31)) (some b) := gb_of_below (by go_grown) b
          have hh11 := hold_gb hh8 g10 hq7 hq4
          refine hK.out _ _ hh11 (fun _ => ?_)
          clear hK K
          have S12 := S9.alloc (.cells (⟨0, ⟨#[]⟩, 0, false, none, 0, 0, 0⟩ : Nc).cells 31)
          refine wpAnyH_ready (rs := [8]) (by kernel_rfl) (by simp) ?_
          refine .cons rfl (fun K hK => ?_) .nil
          have rm13 : roomAt ((w6).alloc (.cells (⟨0, ⟨#[]⟩, 0, false, none, 0, 0, 0⟩ : Nc).cells 31)) (w6.heap.size) 6 = true := roomNd_new _ _ _ _ (by simp)
          have n8 : w.heap.size + 1 < w6.heap.size := by first | omega | (simp; done) | (simp; omega)
          have d7 : w2.heap.size ≠ w6.heap.size := by first | omega | (simp; done) | (simp; omega)
          have d4 : w.heap.size ≠ w6.heap.size := by omega
          have d6 : w.heap.size + 1 ≠ w6.heap.size := by omega
          have db : w5.heap.size ≠ w6.heap.size := by first | omega | (simp; done) | (simp; omega)
          have hY : rowAt (putRow ((w6).alloc (.cells (⟨0, ⟨#[]⟩, 0, false, none, 0, 0, 0⟩ : Nc).cells 31)) (w6.heap.size) (⟨37, ⟨#[]⟩, 0, false, some ⟨w5.heap.size, 0, none⟩, 2, 2, (tk.p : Int)⟩ : Nc).cells) w2.heap.size = some tk.tk.cells ∧ rowAt (putRow ((w6).alloc (.cells (⟨0, ⟨#[]⟩, 0, false, none, 0, 0, 0⟩ : Nc).cells 31)) (w6.heap.size) (⟨37, ⟨#[]⟩, 0, false, some ⟨w5.heap.size, 0, none⟩, 2, 2, (tk.p : Int)⟩ : Nc).cells) w.heap.size = some c.cells := ⟨(row_far _ _ _ _ d7).trans hh11.1, (row_far _ _ _ _ d4).trans hh11.2⟩
          have SY : St w (putRow ((w6).alloc (.cells (⟨0, ⟨#[]⟩, 0, false, none, 0, 0, 0⟩ : Nc).cells 31)) (w6.heap.size) (⟨37, ⟨#[]⟩, 0, false, some ⟨w5.heap.size, 0, none⟩, 2, 2, (tk.p : Int)⟩ : Nc).cells) b g cap L i5 o := S12.old bl gl _ (by omega) _
          have m6 : roomAt (putRow ((w6).alloc (.cells (⟨0, ⟨#[]⟩, 0, false, none, 0, 0, 0⟩ : Nc).cells 31)) (w6.heap.size) (⟨37, ⟨#[]⟩, 0, false, some ⟨w5.heap.size, 0, none⟩, 2, 2, (tk.p : Int)⟩ : Nc).cells) (w.heap.size + 1) 6 = true := (room_far _ _ _ _ _ d6).trans ((room_gb (gb_trans (gb_trans (gb_trans g1 g4) g7) g10) (by first | omega | (simp; done) | (simp; omega)) (by omega) 6).trans ((roomAt_drew _ _ _).trans ((roomAt_old _ _ _ _ (by omega)).trans p6)))
          have mb : (putRow ((w6).alloc (.cells (⟨0, ⟨#[]⟩, 0, false, none, 0, 0, 0⟩ : Nc).cells 31)) (w6.heap.size) (⟨37, ⟨#[]⟩, 0, false, some ⟨w5.heap.size, 0, none⟩, 2, 2, (tk.p : Int)⟩ : Nc).cells).heap[w5.heap.size]? = some (.cells (c.cells ++ c5.cells) 31 (0, 0)) := (put_far _ _ _ _ db).trans ((((gb_trans g7 g10)).block (w5.heap.size) (by first | omega | (simp; done) | (simp; omega)) (by intro e; injection e with e; first | omega | (simp at e; omega))).trans (heap_new' _ _ (by simp)))
          have gw : w.grownBy ((w6).alloc (.cells (⟨0, ⟨#[]⟩, 0, false, none, 0, 0, 0⟩ : Nc).cells 31)) (some b) := S12.gb
          have m1 : NdAt (putRow ((w6).alloc (.cells (⟨0, ⟨#[]⟩, 0, false, none, 0, 0, 0⟩ : Nc).cells 31)) (w6.heap.size) (⟨37, ⟨#[]⟩, 0, false, some ⟨w5.heap.size, 0, none⟩, 2, 2, (tk.p : Int)⟩ : Nc).cells) (fun x => P x ∧ x ≠ w6.heap.size ∧ x ≠ w.heap.size + 1) c n1 := HC.out.keep (fun x hx hl => ⟨hx, by omega, by omega⟩) (by rw [size_put]; exact gw.size) (fun x hx hl => (put_far _ _ _ _ (by omega)).trans (gw.block x hl (by intro e; injection e with e; exact hP1 x hx e)))
          have m2 : NdAt (putRow ((w6).alloc (.cells (⟨0, ⟨#[]⟩, 0, false, none, 0, 0, 0⟩ : Nc).cells 31)) (w6.heap.size) (⟨37, ⟨#[]⟩, 0, false, some ⟨w5.heap.size, 0, none⟩, 2, 2, (tk.p : Int)⟩ : Nc).cells) (fun x => P x ∧ x ≠ w6.heap.size ∧ x ≠ w.heap.size + 1) c5 n2 := n5.keep (fun x hx hl => ⟨hP2 x (by first | omega | (simp at hx; omega)), by first | omega | (simp at hx ⊢; omega), by first | omega | (simp at hx; omega)⟩) (by rw [size_put]; exact ((gb_trans (gb_trans g4 g7) g10)).size) (fun x hx hl => (put_far _ _ _ _ (by first | omega | (simp at hx ⊢; omega))).trans (((gb_trans (gb_trans g4 g7) g10)).block x hl (by intro e; injection e with e; first | omega | (simp at hx; omega))))
          have FIN : Hid (BinAt w (putRow ((w6).alloc (.cells (⟨0, ⟨#[]⟩, 0, false, none, 0, 0, 0⟩ : Nc).cells 31)) (w6.heap.size) (⟨37, ⟨#[]⟩, 0, false, some ⟨w5.heap.size, 0, none⟩, 2, 2, (tk.p : Int)⟩ : Nc).cells) b g cap L o P tk n1 n2 t2 i w2.heap.size (w6.heap.size)) := ⟨w5.heap.size, i5, SY, ht5, hi5, rowNd_put _ _ _ rm13, room_keep rm13 _ rfl, m6, hY.1, n8, bin_made ⟨hP2 _ (by first | omega | (simp; done) | (simp; omega)), db, by first | omega | (simp; done) | (simp; omega)⟩ mb m1 m2⟩
          have HY : Hid (rowAt (putRow ((w6).alloc (.cells (⟨0, ⟨#[]⟩, 0, false, none, 0, 0, 0⟩ : Nc).cells 31)) (w6.heap.size) (⟨37, ⟨#[]⟩, 0, false, some ⟨w5.heap.size, 0, none⟩, 2, 2, (tk.p : Int)⟩ : Nc).cells) w2.heap.size = some tk.tk.cells ∧ rowAt (putRow ((w6).alloc (.cells (⟨0, ⟨#[]⟩, 0, false, none, 0, 0, 0⟩ : Nc).cells 31)) (w6.heap.size) (⟨37, ⟨#[]⟩, 0, false, some ⟨w5.heap.size, 0, none⟩, 2, 2, (tk.p : Int)⟩ : Nc).cells) w.heap.size = some c.cells) := hY
          clear SY m6 mb gw m1 m2 hY n8 d7 d4 d6 db n5 s5 ht5 hi5 g1 g4 g7 g10 S12
          rw [putNd_new _ _ _ _ _ (by simp)] at FIN HY
          go_simp
          refine hK.out _ _ HY.out (fun _ => ?_)
          clear hK K
          refine wpAnyH_done (by kernel_rfl) ?_ _
          go_wp2_with fail
          go_meet
          exact ⟨_, rfl, FIN.out⟩
        · go_simp
          have g14 : ((w5).alloc (.cells (c.cells ++ c5.cells) 31)).grownBy (((w5).alloc (.cells (c.cells ++ c5.cells) 31)).alloc (.cells (⟨0, ⟨#[]⟩, 0, false, none, 0, 0, 0⟩ : Nc).cells 31)) (some b) := gb_of_below (by go_grown) b
          have hh15 := hold_gb hh5 g14 hq7 hq4
          refine hK.out _ _ hh15 (fun _ => ?_)
          clear hK K
          have S16 := S6.alloc (.cells (⟨0, ⟨#[]⟩, 0, false, none, 0, 0, 0⟩ : Nc).cells 31)
          refine wpAnyH_ready (rs := [6]) (by kernel_rfl) (by simp) ?_
          refine .cons rfl (fun K hK => ?_) .nil
          go_simp
          go_wp2_with (go_at_call 59; refine (node_any _ _ _ _ _ _).mono ?_; rintro e w6 ⟨rfl, hb6⟩)
          have g17 : (((w5).alloc (.cells (c.cells ++ c5.cells) 31)).alloc (.cells (⟨0, ⟨#[]⟩, 0, false, none, 0, 0, 0⟩ : Nc).cells 31)).grownBy (w6) (some b) := gb_of_below hb6 b
          have z6 := g17.size
          simp at z6
          have hh18 := hold_gb hh15 g17 hq7 hq4
          refine hK.out _ _ hh18 (fun _ => ?_)
          clear hK K
          have S19 := S16.below hb6
          refine wpAnyH_ready (rs := [8]) (by kernel_rfl) (by simp) ?_
          refine .cons rfl (fun K hK => ?_) .nil
          have rm20 : roomAt (w6) (w5.heap.size + 1) 6 = true := (room_gb g17 (by first | omega | (simp; done) | (simp; omega)) (by first | omega | (simp; done) | (simp; omega)) 6).trans (roomNd_new _ _ _ _ (by simp))
          have n8 : w.heap.size + 1 < w5.heap.size + 1 := by first | omega | (simp; done) | (simp; omega)
          have d7 : w2.heap.size ≠ w5.heap.size + 1 := by first | omega | (simp; done) | (simp; omega)
          have d4 : w.heap.size ≠ w5.heap.size + 1 := by omega
          have d6 : w.heap.size + 1 ≠ w5.heap.size + 1 := by omega
          have db : w5.heap.size ≠ w5.heap.size + 1 := by first | omega | (simp; done) | (simp; omega)
          have hY : rowAt (putRow (w6) (w5.heap.size + 1) (⟨37, ⟨#[]⟩, 0, false, some ⟨w5.heap.size, 0, none⟩, 2, 2, (tk.p : Int)⟩ : Nc).cells) w2.heap.size = some tk.tk.cells ∧ rowAt (putRow (w6) (w5.heap.size + 1) (⟨37, ⟨#[]⟩, 0, false, some ⟨w5.heap.size, 0, none⟩, 2, 2, (tk.p : Int)⟩ : Nc).cells) w.heap.size = some c.cells := ⟨(row_far _ _ _ _ d7).trans hh18.1, (row_far _ _ _ _ d4).trans hh18.2⟩
          have SY : St w (putRow (w6) (w5.heap.size + 1) (⟨37, ⟨#[]⟩, 0, false, some ⟨w5.heap.size, 0, none⟩, 2, 2, (tk.p : Int)⟩ : Nc).cells) b g cap L i5 o := S19.old bl gl _ (by omega) _
          have m6 : roomAt (putRow (w6) (w5.heap.size + 1) (⟨37, ⟨#[]⟩, 0, false, some ⟨w5.heap.size, 0, none⟩, 2, 2, (tk.p : Int)⟩ : Nc).cells) (w.heap.size + 1) 6 = true := (room_far _ _ _ _ _ d6).trans ((room_gb (gb_trans (gb_trans (gb_trans g1 g4) g14) g17) (by first | omega | (simp; done) | (simp; omega)) (by omega) 6).trans ((roomAt_drew _ _ _).trans ((roomAt_old _ _ _ _ (by omega)).trans p6)))
          have mb : (putRow (w6) (w5.heap.size + 1) (⟨37, ⟨#[]⟩, 0, false, some ⟨w5.heap.size, 0, none⟩, 2, 2, (tk.p : Int)⟩ : Nc).cells).heap[w5.heap.size]? = some (.cells (c.cells ++ c5.cells) 31 (0, 0)) := (put_far _ _ _ _ db).trans ((((gb_trans g14 g17)).block (w5.heap.size) (by first | omega | (simp; done) | (simp; omega)) (by intro e; injection e with e; first | omega | (simp at e; omega))).trans (heap_new' _ _ (by simp)))
          have gw : w.grownBy (w6) (some b) := S19.gb
          have m1 : NdAt (putRow (w6) (w5.heap.size + 1) (⟨37, ⟨#[]⟩, 0, false, some ⟨w5.heap.size, 0, none⟩, 2, 2, (tk.p : Int)⟩ : Nc).cells) (fun x => P x ∧ x ≠ w5.heap.size + 1 ∧ x ≠ w.heap.size + 1) c n1 := HC.out.keep (fun x hx hl => ⟨hx, by omega, by omega⟩) (by rw [size_put]; exact gw.size) (fun x hx hl => (put_far _ _ _ _ (by omega)).trans (gw.block x hl (by intro e; injection e with e; exact hP1 x hx e)))
          have m2 : NdAt (putRow (w6) (w5.heap.size + 1) (⟨37, ⟨#[]⟩, 0, false, some ⟨w5.heap.size, 0, none⟩, 2, 2, (tk.p : Int)⟩ : Nc).cells) (fun x => P x ∧ x ≠ w5.heap.size + 1 ∧ x ≠ w.heap.size + 1) c5 n2 := n5.keep (fun x hx hl => ⟨hP2 x (by first | omega | (simp at hx; omega)), by first | omega | (simp at hx ⊢; omega), by first | omega | (simp at hx; omega)⟩) (by rw [size_put]; exact ((gb_trans (gb_trans g4 g14) g17)).size) (fun x hx hl => (put_far _ _ _ _ (by first | omega | (simp at hx ⊢; omega))).trans (((gb_trans (gb_trans g4 g14) g17)).block x hl (by intro e; injection e with e; first | omega | (simp at hx; omega))))
          have FIN : Hid (BinAt w (putRow (w6) (w5.heap.size + 1) (⟨37, ⟨#[]⟩, 0, false, some ⟨w5.heap.size, 0, none⟩, 2, 2, (tk.p : Int)⟩ : Nc).cells) b g cap L o P tk n1 n2 t2 i w2.heap.size (w5.heap.size + 1)) := ⟨w5.heap.size, i5, SY, ht5, hi5, rowNd_put _ _ _ rm20, room_keep rm20 _ rfl, m6, hY.1, n8, bin_made ⟨hP2 _ (by first | omega | (simp; done) | (simp; omega)), db, by first | omega | (simp; done) | (simp; omega)⟩ mb m1 m2⟩
          have HY : Hid (rowAt (putRow (w6) (w5.heap.size + 1) (⟨37, ⟨#[]⟩, 0, false, some ⟨w5.heap.size, 0, none⟩, 2, 2, (tk.p : Int)⟩ : Nc).cells) w2.heap.size = some tk.tk.cells ∧ rowAt (putRow (w6) (w5.heap.size + 1) (⟨37, ⟨#[]⟩, 0, false, some ⟨w5.heap.size, 0, none⟩, 2, 2, (tk.p : Int)⟩ : Nc).cells) w.heap.size = some c.cells) := hY
          clear SY m6 mb gw m1 m2 hY n8 d7 d4 d6 db n5 s5 ht5 hi5 g1 g4 g14 g17 S19
          go_simp
          refine hK.out _ _ HY.out (fun _ => ?_)
          clear hK K
          refine wpAnyH_done (by kernel_rfl) ?_ _
          go_wp2_with fail
          go_meet
          exact ⟨_, rfl, FIN.out⟩
      · go_simp
        have g21 : (w5).grownBy ((w5).alloc (.cells (⟨0, ⟨#[]⟩, 0, false, none, 0, 0, 0⟩ : Nc).cells 31)) (some b) := gb_of_below (by go_grown) b
        have hh22 := hold_gb hh2 g21 hq7 hq4
        refine hK.out _ _ hh22 (fun _ => ?_)
        clear hK K
        have S23 := S3.alloc (.cells (⟨0, ⟨#[]⟩, 0, false, none, 0, 0, 0⟩ : Nc).cells 31)
        refine wpAnyH_ready (rs := [5]) (by kernel_rfl) (by simp) ?_
        refine .cons rfl (fun K hK => ?_) .nil
        go_simp
        have g24 : ((w5).alloc (.cells (⟨0, ⟨#[]⟩, 0, false, none, 0, 0, 0⟩ : Nc).cells 31)).grownBy (((w5).alloc (.cells (⟨0, ⟨#[]⟩, 0, false, none, 0, 0, 0⟩ : Nc).cells 31)).alloc (.cells (c.cells ++ c5.cells) 31)) (some b) := gb_of_below (by go_grown) b
        have hh25 := hold_gb hh22 g24 hq7 hq4
        refine hK.out _ _ hh25 (fun _ => ?_)
        clear hK K
        have S26 := S23.alloc (.cells (c.cells ++ c5.cells) 31)
        refine wpAnyH_ready (rs := [6]) (by kernel_rfl) (by simp) ?_
        refine .cons rfl (fun K hK => ?_) .nil
        go_simp
        go_wp2_with (go_at_call 59; refine (node_any _ _ _ _ _ _).mono ?_; rintro e w6 ⟨rfl, hb6⟩)
        have g27 : (((w5).alloc (.cells (⟨0, ⟨#[]⟩, 0, false, none, 0, 0, 0⟩ : Nc).cells 31)).alloc (.cells (c.cells ++ c5.cells) 31)).grownBy (w6) (some b) := gb_of_below hb6 b
        have z6 := g27.size
        simp at z6
        have hh28 := hold_gb hh25 g27 hq7 hq4
        refine hK.out _ _ hh28 (fun _ => ?_)
        clear hK K
        have S29 := S26.below hb6
        refine wpAnyH_ready (rs := [8]) (by kernel_rfl) (by simp) ?_
        refine .cons rfl (fun K hK => ?_) .nil
        have rm30 : roomAt (w6) (w5.heap.size) 6 = true := (room_gb (gb_trans g24 g27) (by first | omega | (simp; done) | (simp; omega)) (by first | omega | (simp; done) | (simp; omega)) 6).trans (roomNd_new _ _ _ _ (by simp))
        have n8 : w.heap.size + 1 < w5.heap.size := by first | omega | (simp; done) | (simp; omega)
        have d7 : w2.heap.size ≠ w5.heap.size := by first | omega | (simp; done) | (simp; omega)
        have d4 : w.heap.size ≠ w5.heap.size := by omega
        have d6 : w.heap.size + 1 ≠ w5.heap.size := by omega
        have db : w5.heap.size + 1 ≠ w5.heap.size := by first | omega | (simp; done) | (simp; omega)
        have hY : rowAt (putRow (w6) (w5.heap.size) (⟨37, ⟨#[]⟩, 0, false, some ⟨w5.heap.size + 1, 0, none⟩, 2, 2, (tk.p : Int)⟩ : Nc).cells) w2.heap.size = some tk.tk.cells ∧ rowAt (putRow (w6) (w5.heap.size) (⟨37, ⟨#[]⟩, 0, false, some ⟨w5.heap.size + 1, 0, none⟩, 2, 2, (tk.p : Int)⟩ : Nc).cells) w.heap.size = some c.cells := ⟨(row_far _ _ _ _ d7).trans hh28.1, (row_far _ _ _ _ d4).trans hh28.2⟩
        have SY : St w (putRow (w6) (w5.heap.size) (⟨37, ⟨#[]⟩, 0, false, some ⟨w5.heap.size + 1, 0, none⟩, 2, 2, (tk.p : Int)⟩ : Nc).cells) b g cap L i5 o := S29.old bl gl _ (by omega) _
        have m6 : roomAt (putRow (w6) (w5.heap.size) (⟨37, ⟨#[]⟩, 0, false, some ⟨w5.heap.size + 1, 0, none⟩, 2, 2, (tk.p : Int)⟩ : Nc).cells) (w.heap.size + 1) 6 = true := (room_far _ _ _ _ _ d6).trans ((room_gb (gb_trans (gb_trans (gb_trans g1 g21) g24) g27) (by first | omega | (simp; done) | (simp; omega)) (by omega) 6).trans ((roomAt_drew _ _ _).trans ((roomAt_old _ _ _ _ (by omega)).trans p6)))
        have mb : (putRow (w6) (w5.heap.size) (⟨37, ⟨#[]⟩, 0, false, some ⟨w5.heap.size + 1, 0, none⟩, 2, 2, (tk.p : Int)⟩ : Nc).cells).heap[w5.heap.size + 1]? = some (.cells (c.cells ++ c5.cells) 31 (0, 0)) := (put_far _ _ _ _ db).trans (((g27).block (w5.heap.size + 1) (by first | omega | (simp; done) | (simp; omega)) (by intro e; injection e with e; first | omega | (simp at e; omega))).trans (heap_new' _ _ (by simp)))
        have gw : w.grownBy (w6) (some b) := S29.gb
        have m1 : NdAt (putRow (w6) (w5.heap.size) (⟨37, ⟨#[]⟩, 0, false, some ⟨w5.heap.size + 1, 0, none⟩, 2, 2, (tk.p : Int)⟩ : Nc).cells) (fun x => P x ∧ x ≠ w5.heap.size ∧ x ≠ w.heap.size + 1) c n1 := HC.out.keep (fun x hx hl => ⟨hx, by omega, by omega⟩) (by rw [size_put]; exact gw.size) (fun x hx hl => (put_far _ _ _ _ (by omega)).trans (gw.block x hl (by intro e; injection e with e; exact hP1 x hx e)))
        have m2 : NdAt (putRow (w6) (w5.heap.size) (⟨37, ⟨#[]⟩, 0, false, some ⟨w5.heap.size + 1, 0, none⟩, 2, 2, (tk.p : Int)⟩ : Nc).cells) (fun x => P x ∧ x ≠ w5.heap.size ∧ x ≠ w.heap.size + 1) c5 n2 := n5.keep (fun x hx hl => ⟨hP2 x (by first | omega | (simp at hx; omega)), by first | omega | (simp at hx ⊢; omega), by first | omega | (simp at hx; omega)⟩) (by rw [size_put]; exact ((gb_trans (gb_trans g21 g24) g27)).size) (fun x hx hl => (put_far _ _ _ _ (by first | omega | (simp at hx ⊢; omega))).trans (((gb_trans (gb_trans g21 g24) g27)).block x hl (by intro e; injection e with e; first | omega | (simp at hx; omega))))
        have FIN : Hid (BinAt w (putRow (w6) (w5.heap.size) (⟨37, ⟨#[]⟩, 0, false, some ⟨w5.heap.size + 1, 0, none⟩, 2, 2, (tk.p : Int)⟩ : Nc).cells) b g cap L o P tk n1 n2 t2 i w2.heap.size (w5.heap.size)) := ⟨w5.heap.size + 1, i5, SY, ht5, hi5, rowNd_put _ _ _ rm30, room_keep rm30 _ rfl, m6, hY.1, n8, bin_made ⟨hP2 _ (by first | omega | (simp; done) | (simp; omega)), db, by first | omega | (simp; done) | (simp; omega)⟩ mb m1 m2⟩
        have HY : Hid (rowAt (putRow (w6) (w5.heap.size) (⟨37, ⟨#[]⟩, 0, false, some ⟨w5.heap.size + 1, 0, none⟩, 2, 2, (tk.p : Int)⟩ : Nc).cells) w2.heap.size = some tk.tk.cells ∧ rowAt (putRow (w6) (w5.heap.size) (⟨37, ⟨#[]⟩, 0, false, some ⟨w5.heap.size + 1, 0, none⟩, 2, 2, (tk.p : Int)⟩ : Nc).cells) w.heap.size = some c.cells) := hY
        clear SY m6 mb gw m1 m2 hY n8 d7 d4 d6 db n5 s5 ht5 hi5 g1 g21 g24 g27 S29
        go_simp
        refine hK.out _ _ HY.out (fun _ => ?_)
        clear hK K
        refine wpAnyH_done (by kernel_rfl) ?_ _
        go_wp2_with fail
        go_meet
        exact ⟨_, rfl, FIN.out⟩
    · go_simp
      have g31 : ((w2.alloc (.cells tk.tk.cells 41)).drew).grownBy (((w2.alloc (.cells tk.tk.cells 41)).drew).alloc (.cells (⟨0, ⟨#[]⟩, 0, false, none, 0, 0, 0⟩ : Nc).cells 31)) (some b) := gb_of_below (by go_grown) b
      have hh32 := hold_gb hHeld g31 hq7 hq4
      refine hK.out _ _ hh32 (fun _ => ?_)
      clear hK K
      have S33 := S3.alloc (.cells (⟨0, ⟨#[]⟩, 0, false, none, 0, 0, 0⟩ : Nc).cells 31)
      refine wpAnyH_ready (rs := [4]) (by kernel_rfl) (by simp) ?_
      refine .cons rfl (fun K hK => ?_) .nil
      go_simp
      go_wp2_with (go_at_call 43; refine (HF.out _ S33.rd).mono ?_; rintro e w5 ⟨c5, i5, rfl, ht5, hi5, s5, n5⟩)
      have g34 : (((w2.alloc (.cells tk.tk.cells 41)).drew).alloc (.cells (⟨0, ⟨#[]⟩, 0, false, none, 0, 0, 0⟩ : Nc).cells 31)).grownBy (w5) (some b) := s5.gb
      have z5 := g34.size
      simp at z5
      have hh35 := hold_gb hh32 g34 hq7 hq4
      refine hK.out _ _ hh35 (fun _ => ?_)
      clear hK K
      have S36 := S33.next s5
      refine wpAnyH_ready (rs := [5]) (by kernel_rfl) (by simp) ?_
      refine .cons rfl (fun K hK => ?_) .nil
      go_simp
      have g37 : (w5).grownBy ((w5).alloc (.cells (c.cells ++ c5.cells) 31)) (some b) := gb_of_below (by go_grown) b
      have hh38 := hold_gb hh35 g37 hq7 hq4
      refine hK.out _ _ hh38 (fun _ => ?_)
      clear hK K
      have S39 := S36.alloc (.cells (c.cells ++ c5.cells) 31)
      refine wpAnyH_ready (rs := [6]) (by kernel_rfl) (by simp) ?_
      refine .cons rfl (fun K hK => ?_) .nil
      go_simp
      go_wp2_with (go_at_call 59; refine (node_any _ _ _ _ _ _).mono ?_; rintro e w6 ⟨rfl, hb6⟩)
      have g40 : ((w5).alloc (.cells (c.cells ++ c5.cells) 31)).grownBy (w6) (some b) := gb_of_below hb6 b
      have z6 := g40.size
      simp at z6
      have hh41 := hold_gb hh38 g40 hq7 hq4
      refine hK.out _ _ hh41 (fun _ => ?_)
      clear hK K
      have S42 := S39.below hb6
      refine wpAnyH_ready (rs := [8]) (by kernel_rfl) (by simp) ?_
      refine .cons rfl (fun K hK => ?_) .nil
      have rm43 : roomAt (w6) (w2.heap.size + 1) 6 = true := (room_gb (gb_trans (gb_trans g34 g37) g40) (by first | omega | (simp; done) | (simp; omega)) (by first | omega | (simp; done) | (simp; omega)) 6).trans (roomNd_new _ _ _ _ (by simp))
      have n8 : w.heap.size + 1 < w2.heap.size + 1 := by first | omega | (simp; done) | (simp; omega)
      have d7 : w2.heap.size ≠ w2.heap.size + 1 := by first | omega | (simp; done) | (simp; omega)
      have d4 : w.heap.size ≠ w2.heap.size + 1 := by omega
      have d6 : w.heap.size + 1 ≠ w2.heap.size + 1 := by omega
      have db : w5.heap.size ≠ w2.heap.size + 1 := by first | omega | (simp; done) | (simp; omega)
      have hY : rowAt (putRow (w6) (w2.heap.size + 1) (⟨37, ⟨#[]⟩, 0, false, some ⟨w5.heap.size, 0, none⟩, 2, 2, (tk.p : Int)⟩ : Nc).cells) w2.heap.size = some tk.tk.cells ∧ rowAt (putRow (w6) (w2.heap.size + 1) (⟨37, ⟨#[]⟩, 0, false, some ⟨w5.heap.size, 0, none⟩, 2, 2, (tk.p : Int)⟩ : Nc).cells) w.heap.size = some c.cells := ⟨(row_far _ _ _ _ d7).trans hh41.1, (row_far _ _ _ _ d4).trans hh41.2⟩
      have SY : St w (putRow (w6) (w2.heap.size + 1) (⟨37, ⟨#[]⟩, 0, false, some ⟨w5.heap.size, 0, none⟩, 2, 2, (tk.p : Int)⟩ : Nc).cells) b g cap L i5 o := S42.old bl gl _ (by omega) _
      have m6 : roomAt (putRow (w6) (w2.heap.size + 1) (⟨37, ⟨#[]⟩, 0, false, some ⟨w5.heap.size, 0, none⟩, 2, 2, (tk.p : Int)⟩ : Nc).cells) (w.heap.size + 1) 6 = true := (room_far _ _ _ _ _ d6).trans ((room_gb (gb_trans (gb_trans (gb_trans g31 g34) g37) g40) (by first | omega | (simp; done) | (simp; omega)) (by omega) 6).trans ((roomAt_drew _ _ _).trans ((roomAt_old _ _ _ _ (by omega)).trans p6)))
      have mb : (putRow (w6) (w2.heap.size + 1) (⟨37, ⟨#[]⟩, 0, false, some ⟨w5.heap.size, 0, none⟩, 2, 2, (tk.p : Int)⟩ : Nc).cells).heap[w5.heap.size]? = some (.cells (c.cells ++ c5.cells) 31 (0, 0)) := (put_far _ _ _ _ db).trans (((g40).block (w5.heap.size) (by first | omega | (simp; done) | (simp; omega)) (by intro e; injection e with e; first | omega | (simp at e; omega))).trans (heap_new' _ _ (by simp)))
      have gw : w.grownBy (w6) (some b) := S42.gb
      have m1 : NdAt (putRow (w6) (w2.heap.size + 1) (⟨37, ⟨#[]⟩, 0, false, some ⟨w5.heap.size, 0, none⟩, 2, 2, (tk.p : Int)⟩ : Nc).cells) (fun x => P x ∧ x ≠ w2.heap.size + 1 ∧ x ≠ w.heap.size + 1) c n1 := HC.out.keep (fun x hx hl => ⟨hx, by omega, by omega⟩) (by rw [size_put]; exact gw.size) (fun x hx hl => (put_far _ _ _ _ (by omega)).trans (gw.block x hl (by intro e; injection e with e; exact hP1 x hx e)))
      have m2 : NdAt (putRow (w6) (w2.heap.size + 1) (⟨37, ⟨#[]⟩, 0, false, some ⟨w5.heap.size, 0, none⟩, 2, 2, (tk.p : Int)⟩ : Nc).cells) (fun x => P x ∧ x ≠ w2.heap.size + 1 ∧ x ≠ w.heap.size + 1) c5 n2 := n5.keep (fun x hx hl => ⟨hP2 x (by first | omega | (simp at hx; omega)), by first | omega | (simp at hx ⊢; omega), by first | omega | (simp at hx; omega)⟩) (by rw [size_put]; exact ((gb_trans g37 g40)).size) (fun x hx hl => (put_far _ _ _ _ (by first | omega | (simp at hx ⊢; omega))).trans (((gb_trans g37 g40)).block x hl (by intro e; injection e with e; first | omega | (simp at hx; omega))))
      have FIN : Hid (BinAt w (putRow (w6) (w2.heap.size + 1) (⟨37, ⟨#[]⟩, 0, false, some ⟨w5.heap.size, 0, none⟩, 2, 2, (tk.p : Int)⟩ : Nc).cells) b g cap L o P tk n1 n2 t2 i w2.heap.size (w2.heap.size + 1)) := ⟨w5.heap.size, i5, SY, ht5, hi5, rowNd_put _ _ _ rm43, room_keep rm43 _ rfl, m6, hY.1, n8, bin_made ⟨hP2 _ (by first | omega | (simp; done) | (simp; omega)), db, by first | omega | (simp; done) | (simp; omega)⟩ mb m1 m2⟩
      have HY : Hid (rowAt (putRow (w6) (w2.heap.size + 1) (⟨37, ⟨#[]⟩, 0, false, some ⟨w5.heap.size, 0, none⟩, 2, 2, (tk.p : Int)⟩ : Nc).cells) w2.heap.size = some tk.tk.cells ∧ rowAt (putRow (w6) (w2.heap.size + 1) (⟨37, ⟨#[]⟩, 0, false, some ⟨w5.heap.size, 0, none⟩, 2, 2, (tk.p : Int)⟩ : Nc).cells) w.heap.size = some c.cells) := hY
      clear SY m6 mb gw m1 m2 hY n8 d7 d4 d6 db n5 s5 ht5 hi5 g31 g34 g37 g40 S42
      go_simp
      refine hK.out _ _ HY.out (fun _ => ?_)
      clear hK K
      refine wpAnyH_done (by kernel_rfl) ?_ _
      go_wp2_with fail
      go_meet
      exact ⟨_, rfl, FIN.out⟩
  case rest =>
    obtain ⟨q, rfl, blk, i', SY, ht, hi, ry, my, m6, r7, n8, nd⟩ := hcut
    have c7 := rowAt_cell r7
    have cy := rowAt_cell ry
    have fy : ∀ j, j < 6 → wc.frozen? ⟨q, j, none⟩ = false := fun j hj => by have := (room_there my j hj).2; rwa [Nat.zero_add] at this
    have fy1 := fy 1 (by omega)
    have ry2 : rowAt (wc.setCell ⟨q, 1, none⟩ (.string tk.tk.t)) q = some (⟨37, tk.tk.t, 0, false, some ⟨blk, 0, none⟩, 2, 2, (tk.p : Int)⟩ : Nc).cells := rowAt_set _ _ _ _ _ ry
    have my2 : roomAt (wc.setCell ⟨q, 1, none⟩ (.string tk.tk.t)) (w.heap.size + 1) 6 = true := (roomAt_far _ _ _ _ _ (by show w.heap.size + 1 ≠ q; omega)).trans m6
    have FS : Hid (St w (putRow (wc.setCell ⟨q, 1, none⟩ (.string tk.tk.t)) (w.heap.size + 1) (⟨37, tk.tk.t, 0, false, some ⟨blk, 0, none⟩, 2, 2, (tk.p : Int)⟩ : Nc).cells) b g cap L i' o) := (SY.far bl gl q 1 (by omega) _).old bl gl _ (by omega) _
    have FN : Hid (NdAt (putRow (wc.setCell ⟨q, 1, none⟩ (.string tk.tk.t)) (w.heap.size + 1) (⟨37, tk.tk.t, 0, false, some ⟨blk, 0, none⟩, 2, 2, (tk.p : Int)⟩ : Nc).cells) P ⟨37, bs tk.t, 0, false, some ⟨blk, 0, none⟩, 2, 2, (tk.p : Int)⟩ (binN tk n1 n2)) := nd.keep (fun x hx _ => hx.1) (by rw [size_put]; simp) (fun x hx hl => (put_far _ _ _ _ hx.2.2).trans (Below.heap_setCell _ _ _ _ hx.2.1))
    have HT : Hid (t2 = L.drop i' ∧ i + 1 < i') := ⟨ht, hi⟩
    clear nd SY ht hi fy HC HF PA S3 S2 s2 r4 p6 hs2 ry my r7 m6
    go_wp2_with fail
    exact ret_cell1 rfl rfl (loadNd_row (rowNd_put _ _ _ my2)) rfl ⟨_, i', rfl, HT.out.1, HT.out.2, FS.out, FN.out⟩
end Go.Proofs.YtllhcjmabhempaaDoor
