/-
  Layer 7: the functions that the reader hands to its rows of fixes and descriptors.
-/
import Derived.Test.YtepgifapepaheaaRcl
import Derived.Test.YtepgifapepaheaaRrw
namespace Go.Proofs.Ytepgifapepaheaa
set_option linter.unusedVariables false
set_option linter.unusedSimpArgs false
open Go.ChangeShapes Go.WideShapes Go.ChangeAt Go.RowKit

def nf (q : Nat) : Value := .func (.func 27) #[] #[.pointer (some ⟨q, 0, none⟩)]
/-- The cells in which the reader's place, and the function that reads a number, are kept. -/
def By (b nb q : Nat) (X : World) : Prop := X.cell? ⟨nb, 0, none⟩ = some (.func (.func 27) #[] #[.pointer (some ⟨q, 0, none⟩)]) ∧ X.cell? ⟨q, 0, none⟩ = some (.pointer (some ⟨b, 0, none⟩)) ∧ nb ≠ b ∧ q ≠ b ∧ nb < X.heap.size ∧ q < X.heap.size
theorem By.gb {X Y : World} {b nb q : Nat} (h : By b nb q X) (hg : X.grownBy Y (some b)) : By b nb q Y :=
  ⟨(World.cell?_of_block (a := ⟨nb, 0, none⟩) (hg.block nb h.2.2.2.2.1 (fun e => h.2.2.1 (by injection e)))).trans h.1, bx_cell h.2.1 h.2.2.2.2.2 h.2.2.2.1 hg, h.2.2.1, h.2.2.2.1, Nat.lt_of_lt_of_le h.2.2.2.2.1 hg.size, Nat.lt_of_lt_of_le h.2.2.2.2.2 hg.size⟩
theorem By.bx {X : World} {b nb q : Nat} (h : By b nb q X) : Bx X q b := ⟨h.2.1, h.2.2.2.1, h.2.2.2.2.2⟩
theorem By.below {X Y : World} {b nb q : Nat} (h : By b nb q X) (hb : Below X.heap.size X Y) : By b nb q Y := h.gb (gb_of_below hb b)
theorem cell_far {w : World} {g j q : Nat} {v : Value} (h : q ≠ g) : (w.setCell ⟨g, j, none⟩ v).cell? ⟨q, 0, none⟩ = w.cell? ⟨q, 0, none⟩ := World.cell?_of_block (a := ⟨q, 0, none⟩) (Below.heap_setCell _ _ _ _ h)
theorem cell_far4 {w : World} {g q : Nat} {v0 v1 v2 v3 : Value} (h : q ≠ g) : ((((w.setCell ⟨g, 0, none⟩ v0).setCell ⟨g, 1, none⟩ v1).setCell ⟨g, 2, none⟩ v2).setCell ⟨g, 3, none⟩ v3).cell? ⟨q, 0, none⟩ = w.cell? ⟨q, 0, none⟩ := by rw [cell_far h, cell_far h, cell_far h, cell_far h]
/-- A Fix. -/
def fixS (f : Nat → Int) (len : Nat) (s : St) : (Int × Int × Int × Int) × St :=
  let x1 := numS f len 4294967295 s
  let x2 := octS f len 255 x1.2
  let x3 := numS f len 16 x2.2
  let x4 := numS f len 4294967295 x3.2
  ((x1.1, x2.1, x3.1 - 1, x4.1), x4.2)
def fixV (x : Int × Int × Int × Int) : Array Value := #[.int .i64 x.1, .int .i64 x.2.1, .int .i64 x.2.2.1, .int .i64 x.2.2.2]
theorem octS_bd (f : Nat → Int) (len : Nat) (s : St) (hf : ∀ i, i < len → 0 ≤ f i ∧ f i ≤ 255) : 0 ≤ (octS f len 255 s).1 ∧ (octS f len 255 s).1 ≤ 255 := by
  unfold octS
  split
  · rename_i h
    simp only [Bool.and_eq_true, decide_eq_true_eq] at h
    exact hf _ h.2.1
  · exact ⟨Int.le_refl _, show (0 : Int) ≤ 255 by decide⟩
theorem Rdr.bd {w : World} {b len cap : Nat} {a : Option Addr} {f : Nat → Int} {s : St} (h : Rdr w b a len cap f s) : ∀ i, i < len → 0 ≤ f i ∧ f i ≤ 255 := fun i hi => by
  rcases h.src.rd.2 with h0 | ⟨q, off, _, hc⟩
  · omega
  · exact (hc i hi).2
set_option maxHeartbeats 4000000 in
set_option maxRecDepth 20000 in
theorem cl_fix (w : World) (b len cap : Nat) (a : Option Addr) (f : Nat → Int) (s : St) (h : Rdr w b a len cap f s) (nb q : Nat) (hq : By b nb q w) :
    Calls Try.prog 42 #[.pointer (some ⟨nb, 0, none⟩), .pointer (some ⟨q, 0, none⟩)] w (PostR w b a len cap f (.agg (fixV (fixS f len s).1)) (fixS f len s).2) := by
  have hfb := h.bd
  have h1 : Hid (∀ X sx, Rdr X b a len cap f sx → By b nb q X → Calls Try.prog 27 #[.pointer (some ⟨q, 0, none⟩)] X _) := fun X sx hX hB => cl_num X b len cap a f sx hX q hB.bx
  have h2 : Hid (∀ X sx, Rdr X b a len cap f sx → Calls Try.prog 36 #[.pointer (some ⟨b, 0, none⟩), .int .u8 255] X _) := fun X sx hX => octet_of X b len cap a f sx hX 255 (by omega) (by omega)
  have h3 : Hid (∀ X sx, Rdr X b a len cap f sx → Calls Try.prog 28 #[.pointer (some ⟨b, 0, none⟩), .int .u32 16] X _) := fun X sx hX => number_of X b len cap a f sx hX 16 (by omega) (by omega)
  have bl := h.bl
  have HA : Hid (∀ ad, a = some ad → ad.block ≠ w.heap.size) := fun ad he => by have := (h.ap ad he).2; omega
  have H0 : Hid (Rdr ((w.alloc (.cells #[.int .i64 0, .int .i64 0, .int .i64 0, .int .i64 0] 56)).drew) b a len cap f s ∧ By b nb q ((w.alloc (.cells #[.int .i64 0, .int .i64 0, .int .i64 0, .int .i64 0] 56)).drew)) := ⟨h.below (by go_grown), hq.below (by go_grown)⟩
  obtain ⟨c1, c2, -, -, c5, c6⟩ := H0.out.2
  have hnb : w.heap.size ≠ b := by omega
  have hnn : nb ≠ w.heap.size := by have := hq.2.2.2.2.1; omega
  have hnq : q ≠ w.heap.size := by have := hq.2.2.2.2.2; omega
  have b2 := octS_bd f len (numS f len 4294967295 s).2 hfb
  have b3 := numS_bd f len 16 (octS f len 255 (numS f len 4294967295 s).2).2 (by omega)
  unfold fixS
  simp only
  clear h hq hfb
  obtain ⟨x1, hx1⟩ : ∃ x, numS f len 4294967295 s = x := ⟨_, rfl⟩
  rw [hx1] at b2 b3 ⊢
  obtain ⟨x2, hx2⟩ : ∃ x, octS f len 255 x1.2 = x := ⟨_, rfl⟩
  rw [hx2] at b2 b3 ⊢
  obtain ⟨x3, hx3⟩ : ∃ x, numS f len 16 x2.2 = x := ⟨_, rfl⟩
  rw [hx3] at b3 ⊢
  obtain ⟨x4, hx4⟩ : ∃ x, numS f len 4294967295 x3.2 = x := ⟨_, rfl⟩
  rw [hx4]
  have e2 : IntKind.i64.wrap x2.1 = x2.1 := by rw [IntWalk.i64_left, IntWalk.wrap64_in]; omega
  have e3 : IntKind.i64.wrap (x3.1 + -1) = x3.1 - 1 := by rw [IntWalk.i64_left, IntWalk.wrap64_in] <;> omega
  have g1 : Hid (∀ X, Rdr X b a len cap f s → By b nb q X → Calls Try.prog 27 #[.pointer (some ⟨q, 0, none⟩)] X (PostR X b a len cap f (.int .i64 x1.1) x1.2)) := fun X hX hB => by have := h1.out X s hX hB; rwa [hx1] at this
  have g2 : Hid (∀ X, Rdr X b a len cap f x1.2 → Calls Try.prog 36 #[.pointer (some ⟨b, 0, none⟩), .int .u8 255] X (PostR X b a len cap f (.int .u8 x2.1) x2.2)) := fun X hX => by have := h2.out X x1.2 hX; rwa [hx2] at this
  have g3 : Hid (∀ X, Rdr X b a len cap f x2.2 → Calls Try.prog 28 #[.pointer (some ⟨b, 0, none⟩), .int .u32 16] X (PostR X b a len cap f (.int .i64 x3.1) x3.2)) := fun X hX => by have := h3.out X x2.2 hX; rwa [hx3] at this
  have g4 : Hid (∀ X, Rdr X b a len cap f x3.2 → By b nb q X → Calls Try.prog 27 #[.pointer (some ⟨q, 0, none⟩)] X (PostR X b a len cap f (.int .i64 x4.1) x4.2)) := fun X hX hB => by have := h1.out X x3.2 hX hB; rwa [hx4] at this
  clear h1 h2 h3 hx1 hx2 hx3 hx4
  go_enter Try.func42, Try.ntmps42
  go_wp2
  go_region_held3 (fun X => X.cell? ⟨nb, 0, none⟩ = some (.func (.func 27) #[] #[.pointer (some ⟨q, 0, none⟩)]) ∧ X.cell? ⟨q, 0, none⟩ = some (.pointer (some ⟨b, 0, none⟩)))
    (first | (with_reducible (refine ⟨?_, ?_⟩ <;> assumption)) | exact ⟨(cell_far4 hnn).trans (by with_reducible assumption), (cell_far4 hnq).trans (by with_reducible assumption)⟩)
    (first
      | (go_at_call 27; have hx := R3; clear hx; refine (g4.out _ R3.out Y3.out).mono ?_; rintro e w4 ⟨rfl, hr4, hg4⟩; have Y4 : Hid (By b nb q w4) := Y3.out.gb hg4; have y4 := Y4.out.1; have y4' := Y4.out.2.1; have B4 := blk_keep B3 hg4 hnb; have k0 := blk_cell B4 0; have k1 := blk_cell B4 1; have k2 := blk_cell B4 2; have k3 := blk_cell B4 3; have z0 := blk_fz B4 0; have z1 := blk_fz B4 1; have z2 := blk_fz B4 2; have z3 := blk_fz B4 3; simp at k0 k1 k2 k3)
      | (go_at_call 28; refine (g3.out _ R2.out).mono ?_; rintro e w3 ⟨rfl, hr3, hg3⟩; have R3 : Hid (Rdr w3 b a len cap f x3.2) := hr3; have Y3 : Hid (By b nb q w3) := Y2.out.gb hg3; have y3 := Y3.out.1; have y3' := Y3.out.2.1; have B3 := blk_keep B2 hg3 hnb)
      | (go_at_call 36; refine (g2.out _ R1.out).mono ?_; rintro e w2 ⟨rfl, hr2, hg2⟩; have R2 : Hid (Rdr w2 b a len cap f x2.2) := hr2; have Y2 : Hid (By b nb q w2) := Y1.out.gb hg2; have y2 := Y2.out.1; have y2' := Y2.out.2.1; have B2 := blk_keep B1 hg2 hnb)
      | (go_at_call 27; refine (g1.out _ H0.out.1 H0.out.2).mono ?_; rintro e w1 ⟨rfl, hr1, hg1⟩; have R1 : Hid (Rdr w1 b a len cap f x1.2) := hr1; have Y1 : Hid (By b nb q w1) := H0.out.2.gb hg1; have y1 := Y1.out.1; have y1' := Y1.out.2.1; have B1 := blk_keep (blk_newd _ _) hg1 hnb))
  all_goals
    have HR : Hid (Rdr w4 b a len cap f x4.2 ∧ w.grownBy w4 (some b)) := ⟨hr4, gb_trans (gb_trans (gb_trans (gb_trans (gb_of_below (by go_grown) b) hg1) hg2) hg3) hg4⟩
    have HB : Hid (w4.heap[w.heap.size]? = some (.cells #[.int .i64 0, .int .i64 0, .int .i64 0, .int .i64 0] 56 (0, 0))) := B4
    clear hr1 hr2 hr3 hr4 hg1 hg2 hg3 hg4 B1 B2 B3 B4
    go_wp2
    exact ret_cell1 (p := 2) rfl rfl (load_blk (Go.Joins.block_setCell (Go.Joins.block_setCell (Go.Joins.block_setCell (Go.Joins.block_setCell HB.out _) _) _) _) Try.underlying56 rfl (by kernel_rfl)) rfl ⟨rfl, (((HR.out.1.far _ _ _ hnb.symm HA.out).far _ _ _ hnb.symm HA.out).far _ _ _ hnb.symm HA.out).far _ _ _ hnb.symm HA.out, gb_nset (gb_nset (gb_nset (gb_nset HR.out.2 (Nat.le_refl _)) (Nat.le_refl _)) (Nat.le_refl _)) (Nat.le_refl _)⟩
/-- A Desc. -/
def dscS (f : Nat → Int) (len : Nat) (s : St) : (Int × Int × List Int) × St :=
  let x1 := numS f len 4294967295 s
  let x2 := numS f len 4294967295 x1.2
  let x3 := rowS f len 4 (numS f len 4294967295) x2.2
  ((x1.1, x2.1, x3.1), x3.2)
def PostD (w : World) (b : Nat) (a : Option Addr) (len cap : Nat) (f : Nat → Int) (x : Int × Int × List Int) (s : St) (e : Ending) (w' : World) : Prop := ∃ v, e = .returned (.agg #[.int .i64 x.1, .int .i64 x.2.1, v]) ∧ w'.ownsRow w.heap.size 3 1 v x.2.2.length (x.2.2.map (Value.int .i64)) ∧ Rdr w' b a len cap f s ∧ w.grownBy w' (some b)
theorem own_set {X : World} {B g j : Nat} {e : TypeId} {k : Nat} {v u : Value} {n : Nat} {xs : List Value} (h : X.ownsRow B e k v n xs) (hne : ∀ x, v.ownBlock = some x → x ≠ g) : (X.setCell ⟨g, j, none⟩ u).ownsRow B e k v n xs := by
  refine ⟨h.1, ?_⟩
  rcases h.2 with hn | ⟨g1, cap, cur, hv, hb1, hg1, rest⟩
  · exact .inl hn
  · exact .inr ⟨g1, cap, cur, hv, hb1, (Below.heap_setCell _ _ _ _ (hne g1 (by rw [hv]; rfl))).trans hg1, rest⟩
theorem own_base {X : World} {B B' : Nat} {e : TypeId} {k : Nat} {v : Value} {n : Nat} {xs : List Value} (h : X.ownsRow B e k v n xs) (hB : B' ≤ B) : X.ownsRow B' e k v n xs := by
  refine ⟨h.1, ?_⟩
  rcases h.2 with hn | ⟨g1, cap, cur, hv, hb1, rest⟩
  · exact .inl hn
  · exact .inr ⟨g1, cap, cur, hv, Nat.le_trans hB hb1, rest⟩
theorem own_slice {X : World} {B : Nat} {e : TypeId} {k : Nat} {v : Value} {n : Nat} {xs : List Value} (h : X.ownsRow B e k v n xs) : ∃ a l c, v = .slice a l c := by
  rcases h.2 with ⟨hv, _⟩ | ⟨g, cap, cur, hv, _⟩
  · exact ⟨_, _, _, hv⟩
  · exact ⟨_, _, _, hv⟩
theorem cell_far3 {w : World} {g q : Nat} {v0 v1 v2 : Value} (h : q ≠ g) : (((w.setCell ⟨g, 0, none⟩ v0).setCell ⟨g, 1, none⟩ v1).setCell ⟨g, 2, none⟩ v2).cell? ⟨q, 0, none⟩ = w.cell? ⟨q, 0, none⟩ := by rw [cell_far h, cell_far h, cell_far h]
set_option maxHeartbeats 4000000 in
set_option maxRecDepth 20000 in
theorem cl_dsc (w : World) (b len cap : Nat) (a : Option Addr) (f : Nat → Int) (s : St) (h : Rdr w b a len cap f s) (nb q : Nat) (hq : By b nb q w) :
    Calls Try.prog 40 #[.pointer (some ⟨nb, 0, none⟩), .pointer (some ⟨q, 0, none⟩)] w (PostD w b a len cap f (dscS f len s).1 (dscS f len s).2) := by
  have h1 : Hid (∀ X sx, Rdr X b a len cap f sx → By b nb q X → Calls Try.prog 27 #[.pointer (some ⟨q, 0, none⟩)] X _) := fun X sx hX hB => cl_num X b len cap a f sx hX q hB.bx
  have h3 : Hid (∀ X sx, Rdr X b a len cap f sx → By b nb q X → Calls Try.prog 34 #[.pointer (some ⟨b, 0, none⟩), .int .u32 4, .func (.func 27) #[] #[.pointer (some ⟨q, 0, none⟩)]] X _) := fun X sx hX hB => row_int (numS f len 4294967295) q X b len cap a f sx hX 4 (by omega) (by omega) (fun Y sy hY hg => cl_num Y b len cap a f sy hY q (hB.gb hg).bx)
  have bl := h.bl
  have HA : Hid (∀ ad, a = some ad → ad.block ≠ w.heap.size) := fun ad he => by have := (h.ap ad he).2; omega
  have H0 : Hid (Rdr ((w.alloc (.cells #[.int .i64 0, .int .i64 0, .slice none 0 0] 54)).drew) b a len cap f s ∧ By b nb q ((w.alloc (.cells #[.int .i64 0, .int .i64 0, .slice none 0 0] 54)).drew)) := ⟨h.below (by go_grown), hq.below (by go_grown)⟩
  obtain ⟨c1, c2, -, -, c5, c6⟩ := H0.out.2
  have hnb : w.heap.size ≠ b := by omega
  have hnn : nb ≠ w.heap.size := by have := hq.2.2.2.2.1; omega
  have hnq : q ≠ w.heap.size := by have := hq.2.2.2.2.2; omega
  unfold dscS
  simp only
  clear h hq
  obtain ⟨x1, hx1⟩ : ∃ x, numS f len 4294967295 s = x := ⟨_, rfl⟩
  rw [hx1]
  obtain ⟨x2, hx2⟩ : ∃ x, numS f len 4294967295 x1.2 = x := ⟨_, rfl⟩
  rw [hx2]
  obtain ⟨x3, hx3⟩ : ∃ x, rowS f len 4 (numS f len 4294967295) x2.2 = x := ⟨_, rfl⟩
  rw [hx3]
  have g1 : Hid (∀ X, Rdr X b a len cap f s → By b nb q X → Calls Try.prog 27 #[.pointer (some ⟨q, 0, none⟩)] X (PostR X b a len cap f (.int .i64 x1.1) x1.2)) := fun X hX hB => by have := h1.out X s hX hB; rwa [hx1] at this
  have g2 : Hid (∀ X, Rdr X b a len cap f x1.2 → By b nb q X → Calls Try.prog 27 #[.pointer (some ⟨q, 0, none⟩)] X (PostR X b a len cap f (.int .i64 x2.1) x2.2)) := fun X hX hB => by have := h1.out X x1.2 hX hB; rwa [hx2] at this
  have g3 : Hid (∀ X, Rdr X b a len cap f x2.2 → By b nb q X → Calls Try.prog 34 #[.pointer (some ⟨b, 0, none⟩), .int .u32 4, .func (.func 27) #[] #[.pointer (some ⟨q, 0, none⟩)]] X (PostW X b a len cap f 3 1 (x3.1.map (Value.int .i64)) x3.1.length x3.2)) := fun X hX hB => by have := h3.out X x2.2 hX hB; rwa [hx3] at this
  clear h1 h3 hx1 hx2 hx3
  go_enter Try.func40, Try.ntmps40
  go_wp2
  go_region_held3 (fun X => X.cell? ⟨nb, 0, none⟩ = some (.func (.func 27) #[] #[.pointer (some ⟨q, 0, none⟩)]) ∧ X.cell? ⟨q, 0, none⟩ = some (.pointer (some ⟨b, 0, none⟩)))
    (first | (with_reducible (refine ⟨?_, ?_⟩ <;> assumption)) | exact ⟨(cell_far3 hnn).trans (by with_reducible assumption), (cell_far3 hnq).trans (by with_reducible assumption)⟩)
    (first
      | (go_at_call 34; refine (g3.out _ R2.out Y2.out).mono ?_; rintro e w3 ⟨v3, rfl, ho3, hr3, hg3⟩; obtain ⟨va, vn, vc, rfl⟩ := own_slice ho3; have Y3 : Hid (By b nb q w3) := Y2.out.gb hg3; have y3 := Y3.out.1; have y3' := Y3.out.2.1; have B3 := blk_keep B2 hg3 hnb; have k0 := blk_cell B3 0; have k1 := blk_cell B3 1; have k2 := blk_cell B3 2; have z0 := blk_fz B3 0; have z1 := blk_fz B3 1; have z2 := blk_fz B3 2; simp at k0 k1 k2)
      | (go_at_call 27; have hx := R1; clear hx; refine (g2.out _ R1.out Y1.out).mono ?_; rintro e w2 ⟨rfl, hr2, hg2⟩; have R2 : Hid (Rdr w2 b a len cap f x2.2) := hr2; have Y2 : Hid (By b nb q w2) := Y1.out.gb hg2; have y2 := Y2.out.1; have y2' := Y2.out.2.1; have B2 := blk_keep B1 hg2 hnb)
      | (go_at_call 27; refine (g1.out _ H0.out.1 H0.out.2).mono ?_; rintro e w1 ⟨rfl, hr1, hg1⟩; have R1 : Hid (Rdr w1 b a len cap f x1.2) := hr1; have Y1 : Hid (By b nb q w1) := H0.out.2.gb hg1; have y1 := Y1.out.1; have y1' := Y1.out.2.1; have B1 := blk_keep (blk_newd _ _) hg1 hnb))
  all_goals
    have hs1 := hg1.size
    have hs2 := hg2.size
    simp at hs1
    have hlo := own_lo ho3
    have HR : Hid (Rdr w3 b a len cap f x3.2 ∧ w.grownBy w3 (some b)) := ⟨hr3, gb_trans (gb_trans (gb_trans (gb_of_below (by go_grown) b) hg1) hg2) hg3⟩
    have hne : ∀ x, (Value.slice va vn vc).ownBlock = some x → x ≠ w.heap.size := fun x hx => by have := hlo x hx; omega
    have HO : Hid (w3.ownsRow w.heap.size 3 1 (.slice va vn vc) x3.1.length (x3.1.map (Value.int .i64)) ∧ ∀ x, (Value.slice va vn vc).ownBlock = some x → x ≠ w.heap.size) := ⟨own_base ho3 (by omega), hne⟩
    have HB : Hid (w3.heap[w.heap.size]? = some (.cells #[.int .i64 0, .int .i64 0, .slice none 0 0] 54 (0, 0))) := B3
    clear hr1 hr2 hr3 hg1 hg2 hg3 B1 B2 B3 hne hlo ho3
    go_wp2
    exact ret_cell1 (p := 2) rfl rfl (load_blk (Go.Joins.block_setCell (Go.Joins.block_setCell (Go.Joins.block_setCell HB.out _) _) _) Try.underlying54 rfl (by kernel_rfl)) rfl ⟨_, rfl, own_set (own_set (own_set HO.out.1 HO.out.2) HO.out.2) HO.out.2, ((HR.out.1.far _ _ _ hnb.symm HA.out).far _ _ _ hnb.symm HA.out).far _ _ _ hnb.symm HA.out, gb_nset (gb_nset (gb_nset HR.out.2 (Nat.le_refl _)) (Nat.le_refl _)) (Nat.le_refl _)⟩
end Go.Proofs.Ytepgifapepaheaa
