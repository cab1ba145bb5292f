/-
  Layer 7: the functions that the reader hands to its rows.
-/
import Derived.Test.YtepgifapepaheaaRdo
import Derived.Deep.MidRow
namespace Go.Proofs.Ytepgifapepaheaa
set_option linter.unusedVariables false
set_option linter.unusedSimpArgs false
open Go.ChangeShapes Go.WideShapes Go.ChangeAt Go.RowKit

/-- The cell in which the reader's place is kept. -/
def Bx (w : World) (q b : Nat) : Prop := w.cell? ⟨q, 0, none⟩ = some (.pointer (some ⟨b, 0, none⟩)) ∧ q ≠ b ∧ q < w.heap.size
theorem Bx.gb {w X : World} {q b : Nat} (h : Bx w q b) (hg : w.grownBy X (some b)) : Bx X q b :=
  ⟨(World.cell?_of_block (a := ⟨q, 0, none⟩) (hg.block q h.2.2 (fun e => h.2.1 (by injection e)))).trans h.1, h.2.1, Nat.lt_of_lt_of_le h.2.2 hg.size⟩
set_option maxHeartbeats 1000000 in
theorem cl_num (w : World) (b len cap : Nat) (a : Option Addr) (f : Nat → Int) (s : St) (h : Rdr w b a len cap f s) (q : Nat) (hq : Bx w q b) :
    Calls Try.prog 27 #[.pointer (some ⟨q, 0, none⟩)] w (PostR w b a len cap f (.int .i64 (numS f len 4294967295 s).1) (numS f len 4294967295 s).2) := by
  have N : Hid (Calls Try.prog 28 #[.pointer (some ⟨b, 0, none⟩), .int .u32 4294967295] w _) := number_of w b len cap a f s h 4294967295 (by omega) (by omega)
  have hc := hq.1
  clear h hq
  go_enter Try.func27, Try.ntmps27
  go_wp2_with (go_at_call 28; refine N.out.mono ?_; rintro e w1 ⟨rfl, hr, hg⟩)
  go_ret
  exact ⟨rfl, hr, hg⟩
set_option maxHeartbeats 1000000 in
theorem cl_str (w : World) (b len cap : Nat) (a : Option Addr) (f : Nat → Int) (s : St) (h : Rdr w b a len cap f s) (q : Nat) (hq : Bx w q b) :
    Calls Try.prog 38 #[.pointer (some ⟨q, 0, none⟩)] w (PostR w b a len cap f (.string (textS f len 200 s).1) (textS f len 200 s).2) := by
  have N : Hid (Calls Try.prog 29 #[.pointer (some ⟨b, 0, none⟩), .int .i64 200] w _) := text_of w b len cap a f s h 200 (by omega) (by omega)
  have hc := hq.1
  clear h hq
  go_enter Try.func38, Try.ntmps38
  go_wp2_with (go_at_call 29; refine N.out.mono ?_; rintro e w1 ⟨rfl, hr, hg⟩)
  go_ret
  exact ⟨rfl, hr, hg⟩
theorem blk_keep {X Y : World} {b g : Nat} {o : Obj} (h : X.heap[g]? = some o) (hg : X.grownBy Y (some b)) (hne : g ≠ b) : Y.heap[g]? = some o :=
  (hg.block g (Array.getElem?_eq_some_iff.1 h).1 (fun e => hne (by injection e))).trans h
theorem blk_cell {Y : World} {g : Nat} {cs : Array Value} {t : TypeId} (h : Y.heap[g]? = some (.cells cs t (0, 0))) (j : Nat) : Y.cell? ⟨g, j, none⟩ = cs[j]? := by simp [World.cell?, h]
theorem blk_fz {Y : World} {g : Nat} {cs : Array Value} {t : TypeId} (h : Y.heap[g]? = some (.cells cs t (0, 0))) (j : Nat) : Y.frozen? ⟨g, j, none⟩ = false := by simp [World.frozen?, h]
theorem blk_new (w : World) (o : Obj) : (w.alloc o).heap[w.heap.size]? = some o := Array.getElem?_push_size
theorem blk_newd (w : World) (o : Obj) : (w.alloc o).drew.heap[w.heap.size]? = some o := Array.getElem?_push_size
theorem bx_cell {X Y : World} {q b : Nat} (h : X.cell? ⟨q, 0, none⟩ = some (.pointer (some ⟨b, 0, none⟩))) (hl : q < X.heap.size) (hne : q ≠ b) (hg : X.grownBy Y (some b)) : Y.cell? ⟨q, 0, none⟩ = some (.pointer (some ⟨b, 0, none⟩)) :=
  (World.cell?_of_block (a := ⟨q, 0, none⟩) (hg.block q hl (fun e => hne (by injection e)))).trans h
theorem gb_nset {w w' : World} {b g j : Nat} {v : Value} (h : w.grownBy w' (some b)) (hg : w.heap.size ≤ g) : w.grownBy (w'.setCell ⟨g, j, none⟩ v) (some b) :=
  ⟨h.os, h.tape, h.output, by simpa using h.size, fun k hk hne => (Below.heap_setCell _ _ _ _ (show k ≠ g by omega)).trans (h.block k hk hne)⟩
theorem Rdr.far {w : World} {b len cap : Nat} {a : Option Addr} {f : Nat → Int} {s : St} (h : Rdr w b a len cap f s) (g j : Nat) (v : Value) (hb : b ≠ g) (ha : ∀ ad, a = some ad → ad.block ≠ g) : Rdr (w.setCell ⟨g, j, none⟩ v) b a len cap f s :=
  h.same (by simp) (Below.heap_setCell _ _ _ _ hb) fun ad he => Below.heap_setCell _ _ _ _ (ha ad he)
theorem ret_cell1 {P : Program} {fn : Func} {R : Ending → World → Prop} {a : Act} {w : World} {p : Tmp} {ty : TypeId} {ad : Addr} {v : Value} (h : fn.results = #[.cell p ty]) (hp : a.tmps.getD p undef = .pointer (some ad)) (hl : (loadVar ty ad).run P w = .ok v w) (hd : a.defers = []) (hR : R (.returned v) w) : bodyPost P fn R .ret a w := by
  refine bodyPost_ret (v := v) ?_ hd hR
  have hp' : a.tmps[p]?.getD undef = .pointer (some ad) := by simpa using hp
  simp only [results, h]
  simp [hp', asAddr, hl]
theorem ret_cell_tmp {P : Program} {fn : Func} {R : Ending → World → Prop} {a : Act} {w : World} {p q : Tmp} {ty : TypeId} {ad : Addr} {v : Value} (h : fn.results = #[.cell p ty, .tmp q]) (hp : a.tmps.getD p undef = .pointer (some ad)) (hl : (loadVar ty ad).run P w = .ok v w) (hd : a.defers = []) (hR : R (.returned (.tuple #[v, a.tmps.getD q undef])) w) : bodyPost P fn R .ret a w := by
  refine bodyPost_ret (v := .tuple #[v, a.tmps.getD q undef]) ?_ hd hR
  have hp' : a.tmps[p]?.getD undef = .pointer (some ad) := by simpa using hp
  simp only [results, h]
  simp [hp', asAddr, hl]
theorem ret_cell_tmp2 {P : Program} {fn : Func} {R : Ending → World → Prop} {a : Act} {w : World} {p q r : Tmp} {ty : TypeId} {ad : Addr} {v : Value} (h : fn.results = #[.cell p ty, .tmp q, .tmp r]) (hp : a.tmps.getD p undef = .pointer (some ad)) (hl : (loadVar ty ad).run P w = .ok v w) (hd : a.defers = []) (hR : R (.returned (.tuple #[v, a.tmps.getD q undef, a.tmps.getD r undef])) w) : bodyPost P fn R .ret a w := by
  refine bodyPost_ret (v := .tuple #[v, a.tmps.getD q undef, a.tmps.getD r undef]) ?_ hd hR
  have hp' : a.tmps[p]?.getD undef = .pointer (some ad) := by simpa using hp
  simp only [results, h]
  simp [hp', asAddr, hl]
theorem load_blk {w : World} {g : Nat} {cs : Array Value} {ty : TypeId} {d : TypeDesc} (h : w.heap[g]? = some (.cells cs ty (0, 0))) (hu : Try.prog.underlying ty = some d) (hd : d.isRow = true) (hi : (Try.prog.info? ty).map (·.size) = some cs.size) : (loadVar ty ⟨g, 0, none⟩).run Try.prog w = .ok (.agg cs) w := by
  have := run_loadVar_mid (P := Try.prog) w g 0 ty cs.toList d (fun j v hv => by rw [Nat.zero_add, blk_cell h j]; simpa using hv) hu hd (by simpa using hi)
  simpa using this
/-- An Import. -/
def impS (f : Nat → Int) (len : Nat) (s : St) : (ByteArray × Int) × St := (((textS f len 20 s).1, (wordS f len (textS f len 20 s).2).1), (wordS f len (textS f len 20 s).2).2)
def impV (x : ByteArray × Int) : Array Value := #[.string x.1, .int .u32 x.2]
set_option maxHeartbeats 2000000 in
theorem cl_imp (w : World) (b len cap : Nat) (a : Option Addr) (f : Nat → Int) (s : St) (h : Rdr w b a len cap f s) (q : Nat) (hq : Bx w q b) :
    Calls Try.prog 32 #[.pointer (some ⟨q, 0, none⟩)] w (PostR w b a len cap f (.agg (impV (impS f len s).1)) (impS f len s).2) := by
  have W0 : Hid (∀ X sx, Rdr X b a len cap f sx → Calls Try.prog 30 #[.pointer (some ⟨b, 0, none⟩)] X _) := fun X sx hX => word_of X b len cap a f sx hX
  have N : Hid (∀ X, Below w.heap.size w X → Calls Try.prog 29 #[.pointer (some ⟨b, 0, none⟩), .int .i64 20] X _) := fun X hX => text_of X b len cap a f s (h.below hX) 20 (by omega) (by omega)
  have hc := hq.1
  have hl := hq.2.2
  have HQ : Hid (Bx w q b) := hq
  unfold impS
  simp only
  generalize textS f len 20 s = T at *
  have bl := h.bl
  have hqb := hq.2.1
  have HA : Hid (∀ ad, a = some ad → ad.block ≠ w.heap.size) := fun ad he => by have := (h.ap ad he).2; omega
  clear h hq
  have hne : w.heap.size ≠ q := by omega
  have hnb : w.heap.size ≠ b := by omega
  go_enter Try.func32, Try.ntmps32
  go_wp2
  go_region_with (first
    | (go_at_call 30; refine (W0.out _ _ hr1).mono ?_; rintro e w2 ⟨rfl, hr2, hg2⟩; have B2 := blk_keep B1 hg2 hnb; have k0 := blk_cell B2 0; have k1 := blk_cell B2 1; have z0 := blk_fz B2 0; have z1 := blk_fz B2 1; simp at k0 k1)
    | (go_at_call 29; (refine (N.out _ (by go_grown)).mono ?_; rintro e w1 ⟨rfl, hr1, hg1⟩; have B1 := blk_keep (blk_newd _ _) hg1 hnb; have hq1 := bx_cell (by simpa [World.cell?_alloc_old, hne.symm] using hc) (by simp; omega) hqb hg1)))
  all_goals
    have HR : Hid (Rdr w2 b a len cap f (wordS f len T.2).2 ∧ w.grownBy w2 (some b)) := ⟨hr2, gb_trans (gb_trans (gb_of_below (by go_grown) b) hg1) hg2⟩
    have HB : Hid (w2.heap[w.heap.size]? = some (.cells #[.string ⟨#[]⟩, .int .u32 0] 59 (0, 0))) := B2
    clear hr1 hg1 hr2 hg2 B1 B2
    go_wp2
    exact ret_cell1 (p := 1) rfl rfl (load_blk (Go.Joins.block_setCell (Go.Joins.block_setCell HB.out _) _) Try.underlying59 rfl (by kernel_rfl)) rfl ⟨rfl, (HR.out.1.far _ _ _ hnb.symm HA.out).far _ _ _ hnb.symm HA.out, gb_nset (gb_nset HR.out.2 (Nat.le_refl _)) (Nat.le_refl _)⟩
end Go.Proofs.Ytepgifapepaheaa
