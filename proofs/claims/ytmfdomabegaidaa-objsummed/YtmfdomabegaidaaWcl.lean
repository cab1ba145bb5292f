/-
  Layer 7: the functions that the writer hands to its rows.
-/
import Derived.Test.YtmfdomabegaidaaWro
namespace Go.Proofs.Ytmfdomabegaidaa
set_option linter.unusedVariables false
set_option linter.unusedSimpArgs false
open Go.ChangeShapes Go.WideShapes Go.ChangeAt Go.RowKit
attribute [local go_sem] Oc.at0 Oc.at1 Oc.at2 Oc.at3 Oc.at4 Oc.at5 Oc.at6 Oc.at7 Oc.at8 Oc.at9 Oc.at10 Oc.at11 Oc.at12

/-- The boxes that the writer's functions share: the writer's place, the object, the function that writes a number. -/
structure Wb (X : World) (p B q ob nb : Nat) (c : Oc) : Prop where
  wq : X.heap[q]? = some (.cells #[.pointer (some ⟨p, 0, none⟩)] 49 (0, 0))
  oo : OAt X ob c
  nn : X.heap[nb]? = some (.cells #[.func (.func 57) #[] #[.pointer (some ⟨q, 0, none⟩)]] 87 (0, 0))
  ne : q ≠ p ∧ ob ≠ p ∧ nb ≠ p ∧ q < B ∧ ob < B ∧ nb < B
theorem Wb.tq {X Y : World} {p B q ob nb : Nat} {c : Oc} (h : Wb X p B q ob nb c) (t : Tq X Y (fun k => k = p ∨ B ≤ k)) : Wb Y p B q ob nb c := by
  obtain ⟨n1, n2, n3, n4, n5, n6⟩ := h.ne
  exact ⟨(t.blk q (Array.getElem?_eq_some_iff.1 h.wq).1 (by omega)).trans h.wq, (t.blk ob h.oo.lt (by omega)).trans h.oo, (t.blk nb (Array.getElem?_eq_some_iff.1 h.nn).1 (by omega)).trans h.nn, h.ne⟩
theorem Wb.wk {X Y : World} {p B q ob nb : Nat} {c : Oc} {l : List Int} (h : Wb X p B q ob nb c) (hw : Wr X p B l) (hk : Wk X Y p) : Wb Y p B q ob nb c := h.tq (hk.tq hw)
theorem Wb.below {X Y : World} {p B q ob nb : Nat} {c : Oc} (h : Wb X p B q ob nb c) (hb : Below X.heap.size X Y) : Wb Y p B q ob nb c :=
  ⟨(hb.block q (Array.getElem?_eq_some_iff.1 h.wq).1).trans h.wq, (hb.block ob h.oo.lt).trans h.oo, (hb.block nb (Array.getElem?_eq_some_iff.1 h.nn).1).trans h.nn, h.ne⟩
/-- Where the writer is, behind some of what it writes: a box of the call's own, and all else. -/
structure Wo (X0 X : World) (p B q ob nb : Nat) (c : Oc) (cs : Array Value) (t : TypeId) (l : List Int) : Prop where
  wr : Wr X p B l
  wb : Wb X p B q ob nb c
  wk : Wk X0 X p
  bx : X.heap[X0.heap.size]? = some (.cells cs t (0, 0))
  wf : X0.heap.size ≠ p ∧ Wf X p X0.heap.size
theorem Wo.start {X : World} {p B q ob nb : Nat} {c : Oc} {l : List Int} (h : Wr X p B l) (hb : Wb X p B q ob nb c) (cs : Array Value) (t : TypeId) : Wo X (X.alloc (.cells cs t)) p B q ob nb c cs t l := by
  have hbe : Below X.heap.size X (X.alloc (.cells cs t)) := (Below.refl _ _).alloc (Nat.le_refl _) _
  exact ⟨h.below hbe, hb.below hbe, Wk.below h.pl hbe, blk_new _ _, Nat.ne_of_gt h.pl, h.new (hbe.block p h.pl) (Nat.le_refl _)⟩
theorem Wo.next {X0 X Y : World} {p B q ob nb : Nat} {c : Oc} {cs : Array Value} {t : TypeId} {l l' : List Int} (h : Wo X0 X p B q ob nb c cs t l) (hw : Wr Y p B l') (hk : Wk X Y p) : Wo X0 Y p B q ob nb c cs t l' := by
  have hx := hk.blk X0.heap.size (Array.getElem?_eq_some_iff.1 h.bx).1 h.wf.1 h.wf.2
  exact ⟨hw, h.wb.wk h.wr hk, h.wk.trans hk, hx.1.trans h.bx, h.wf.1, hx.2⟩
section
variable (X : World) (p B q ob nb : Nat) (c : Oc) (l : List Int) (h : Wr X p B l) (hb : Wb X p B q ob nb c)
include h hb
theorem cl_w1 (i n : Int) (n0 : 0 ≤ n) (n1 : n ≤ 4294967295) (hl : l.length ≤ 800000000) : Calls Try.prog 57 #[.int .i64 i, .int .i64 n, .pointer (some ⟨q, 0, none⟩)] X (PostZ X p B (l ++ numL 4 n)) := by
  have N : Hid (Calls Try.prog 58 #[.pointer (some ⟨p, 0, none⟩), .int .i64 n] X _) := number_z X p B l h n n0 n1 (by omega)
  have cq : X.cell? ⟨q, 0, none⟩ = some (.pointer (some ⟨p, 0, none⟩)) := blk_cell hb.wq 0
  clear h hb
  go_enter Try.func57, Try.ntmps57
  go_wp2_with (go_at_call 58; refine N.out.mono ?_; rintro e w1 ⟨rfl, hr⟩)
  go_end0
  exact ⟨rfl, hr⟩
theorem cl_w3 (i n : Int) (hl : l.length ≤ 800000000) : Calls Try.prog 64 #[.int .i64 i, .int .u32 n, .pointer (some ⟨q, 0, none⟩)] X (PostZ X p B (l ++ wdL n)) := by
  have N : Hid (Calls Try.prog 60 #[.pointer (some ⟨p, 0, none⟩), .int .u32 n] X _) := word_z X p B l h n (by omega)
  have cq : X.cell? ⟨q, 0, none⟩ = some (.pointer (some ⟨p, 0, none⟩)) := blk_cell hb.wq 0
  clear h hb
  go_enter Try.func64, Try.ntmps64
  go_wp2_with (go_at_call 60; refine N.out.mono ?_; rintro e w1 ⟨rfl, hr⟩)
  go_end0
  exact ⟨rfl, hr⟩
theorem cl_w5 (i : Int) (s : ByteArray) (hs : s.size ≤ 1000) (hl : l.length ≤ 800000000) : Calls Try.prog 69 #[.int .i64 i, .string s, .pointer (some ⟨q, 0, none⟩)] X (PostZ X p B (l ++ textL s)) := by
  have N : Hid (Calls Try.prog 59 #[.pointer (some ⟨p, 0, none⟩), .string s] X _) := text_z X p B l h s hs (by omega)
  have cq : X.cell? ⟨q, 0, none⟩ = some (.pointer (some ⟨p, 0, none⟩)) := blk_cell hb.wq 0
  clear h hb
  go_enter Try.func69, Try.ntmps69
  go_wp2_with (go_at_call 59; refine N.out.mono ?_; rintro e w1 ⟨rfl, hr⟩)
  go_end0
  exact ⟨rfl, hr⟩
set_option maxHeartbeats 4000000 in
set_option maxRecDepth 20000 in
theorem cl_w2 (i : Int) (x : ByteArray × Int) (hs : x.1.size ≤ 1000) (hl : l.length + (impL x).length ≤ 800000000) : Calls Try.prog 62 #[.int .i64 i, .agg (iEnc x), .pointer (some ⟨q, 0, none⟩)] X (PostZ X p B (l ++ impL x)) := by
  have hl1 : (impL x).length = (textL x.1).length + (wdL x.2).length := by unfold impL; rw [List.length_append]
  have O1 := hid_of (Wo.start h hb #[.string x.1, .int .u32 x.2] 54)
  have E1 : Hid (∀ Y l', Wo X Y p B q ob nb c #[.string x.1, .int .u32 x.2] 54 l' → Y.cell? ⟨q, 0, none⟩ = some (.pointer (some ⟨p, 0, none⟩)) ∧ Y.cell? ⟨X.heap.size, 0, none⟩ = some (.string x.1) ∧ Y.cell? ⟨X.heap.size, 1, none⟩ = some (.int .u32 x.2)) := fun Y l' hY => ⟨blk_cell hY.wb.wq 0, blk_cell hY.bx 0, blk_cell hY.bx 1⟩
  have TZ : Hid (∀ Y, Wo X Y p B q ob nb c #[.string x.1, .int .u32 x.2] 54 l → Calls Try.prog 59 #[.pointer (some ⟨p, 0, none⟩), .string x.1] Y fun e Z => e = .returned (.tuple #[]) ∧ Wo X Z p B q ob nb c #[.string x.1, .int .u32 x.2] 54 (l ++ textL x.1)) := fun Y hY => (text_z Y p B l hY.wr x.1 hs (by omega)).mono fun e Z hh => ⟨hh.1, hY.next hh.2.1 hh.2.2⟩
  have WZ : Hid (∀ Y, Wo X Y p B q ob nb c #[.string x.1, .int .u32 x.2] 54 (l ++ textL x.1) → Calls Try.prog 60 #[.pointer (some ⟨p, 0, none⟩), .int .u32 x.2] Y fun e Z => e = .returned (.tuple #[]) ∧ Wo X Z p B q ob nb c #[.string x.1, .int .u32 x.2] 54 (l ++ impL x)) := fun Y hY => (word_z Y p B _ hY.wr x.2 (by rw [List.length_append]; omega)).mono fun e Z hh => ⟨hh.1, by unfold impL; rw [← List.append_assoc]; exact hY.next hh.2.1 hh.2.2⟩
  obtain ⟨s, k⟩ := x
  unfold iEnc
  simp only at *
  obtain ⟨a1, a2, a3⟩ := E1.out _ _ O1.out
  clear h hb
  go_enter Try.func62, Try.ntmps62
  go_wp2_with (first
    | (go_at_call 59; refine (TZ.out _ O1.out).mono ?_; rintro e w1 ⟨rfl, o1⟩; have O2 := hid_of o1; obtain ⟨b1, b2, b3⟩ := E1.out _ _ o1; clear o1)
    | (go_at_call 60; refine (WZ.out _ O2.out).mono ?_; rintro e w2 ⟨rfl, o2⟩; have O3 := hid_of o2; clear o2))
  go_end0
  exact ⟨rfl, O3.out.wr, O3.out.wk⟩
set_option maxHeartbeats 4000000 in
set_option maxRecDepth 20000 in
theorem cl_w7 (i : Int) (x : Int × Int × Int × Int) (h1 : 0 ≤ x.1 ∧ x.1 ≤ 4294967295) (h2 : 0 ≤ x.2.1 ∧ x.2.1 ≤ 255) (h3 : -1 ≤ x.2.2.1 ∧ x.2.2.1 ≤ 4294967294) (h4 : 0 ≤ x.2.2.2 ∧ x.2.2.2 ≤ 4294967295) (hl : l.length + (fixL x).length ≤ 800000000) : Calls Try.prog 73 #[.int .i64 i, .agg (xEnc x), .pointer (some ⟨q, 0, none⟩)] X (PostZ X p B (l ++ fixL x)) := by
  have hl1 : (fixL x).length = (numL 4 x.1).length + ((numL 4 (x.2.2.1 + 1)).length + 1 + (numL 4 x.2.2.2).length) := by unfold fixL; simp only [List.length_append, List.length_cons, List.length_nil]; omega
  have O1 := hid_of (Wo.start h hb #[.int .i64 x.1, .int .i64 x.2.1, .int .i64 x.2.2.1, .int .i64 x.2.2.2] 57)
  have E1 : Hid (∀ Y l', Wo X Y p B q ob nb c #[.int .i64 x.1, .int .i64 x.2.1, .int .i64 x.2.2.1, .int .i64 x.2.2.2] 57 l' → Y.cell? ⟨q, 0, none⟩ = some (.pointer (some ⟨p, 0, none⟩)) ∧ Y.cell? ⟨X.heap.size, 0, none⟩ = some (.int .i64 x.1) ∧ Y.cell? ⟨X.heap.size, 1, none⟩ = some (.int .i64 x.2.1) ∧ Y.cell? ⟨X.heap.size, 2, none⟩ = some (.int .i64 x.2.2.1) ∧ Y.cell? ⟨X.heap.size, 3, none⟩ = some (.int .i64 x.2.2.2)) := fun Y l' hY => ⟨blk_cell hY.wb.wq 0, blk_cell hY.bx 0, blk_cell hY.bx 1, blk_cell hY.bx 2, blk_cell hY.bx 3⟩
  have NZ : Hid (∀ Y l' n, Wo X Y p B q ob nb c #[.int .i64 x.1, .int .i64 x.2.1, .int .i64 x.2.2.1, .int .i64 x.2.2.2] 57 l' → 0 ≤ n → n ≤ 4294967295 → l'.length ≤ 800000000 → Calls Try.prog 58 #[.pointer (some ⟨p, 0, none⟩), .int .i64 n] Y fun e Z => e = .returned (.tuple #[]) ∧ Wo X Z p B q ob nb c #[.int .i64 x.1, .int .i64 x.2.1, .int .i64 x.2.2.1, .int .i64 x.2.2.2] 57 (l' ++ numL 4 n)) := fun Y l' n hY n0 n1 hl' => (number_z Y p B l' hY.wr n n0 n1 (by omega)).mono fun e Z hh => ⟨hh.1, hY.next hh.2.1 hh.2.2⟩
  have OZ : Hid (∀ Y l' n, Wo X Y p B q ob nb c #[.int .i64 x.1, .int .i64 x.2.1, .int .i64 x.2.2.1, .int .i64 x.2.2.2] 57 l' → l'.length ≤ 800000000 → Calls Try.prog 74 #[.pointer (some ⟨p, 0, none⟩), .int .u8 n] Y fun e Z => e = .returned (.tuple #[]) ∧ Wo X Z p B q ob nb c #[.int .i64 x.1, .int .i64 x.2.1, .int .i64 x.2.2.1, .int .i64 x.2.2.2] 57 (l' ++ [n])) := fun Y l' n hY hl' => (octet_z Y p B l' hY.wr n (by omega)).mono fun e Z hh => ⟨hh.1, hY.next hh.2.1 hh.2.2⟩
  have hfl : l ++ fixL x = l ++ numL 4 x.1 ++ [x.2.1] ++ numL 4 (x.2.2.1 + 1) ++ numL 4 x.2.2.2 := by unfold fixL; simp only [List.append_assoc]
  rw [hfl]
  obtain ⟨a, b, m, n⟩ := x
  unfold xEnc
  simp only at *
  obtain ⟨c1, c2, c3, c4, c5⟩ := E1.out _ _ O1.out
  have e1 : IntKind.u8.wrap b = b := by show b % 256 = b; omega
  have e2 : IntKind.i64.wrap (m - -1) = m + 1 := by rw [IntWalk.i64_left, IntWalk.wrap64_in] <;> omega
  have e3 : b % 256 = b := by omega
  clear h hb hfl
  go_enter Try.func73, Try.ntmps73
  go_wp2_with (first
    | (go_at_call 58; have hx := O4; clear hx; refine (NZ.out _ _ n O4.out (by omega) (by omega) (by simp only [List.length_append, List.length_cons, List.length_nil]; omega)).mono ?_; rintro e w4 ⟨rfl, o4⟩; have O5 := hid_of o4; clear o4)
    | (go_at_call 58; have hx := O3; clear hx; refine (NZ.out _ _ (m + 1) O3.out (by omega) (by omega) (by simp only [List.length_append, List.length_cons, List.length_nil]; omega)).mono ?_; rintro e w3 ⟨rfl, o3⟩; have O4 := hid_of o3; obtain ⟨f1, f2, f3, f4, f5⟩ := E1.out _ _ o3; clear o3)
    | (go_at_call 74; refine (OZ.out _ _ b O2.out (by simp only [List.length_append]; omega)).mono ?_; rintro e w2 ⟨rfl, o2⟩; have O3 := hid_of o2; obtain ⟨d1, d2, d3, d4, d5⟩ := E1.out _ _ o2; clear o2)
    | (go_at_call 58; refine (NZ.out _ _ a O1.out (by omega) (by omega) (by omega)).mono ?_; rintro e w1 ⟨rfl, o1⟩; have O2 := hid_of o1; obtain ⟨b1, b2, b3, b4, b5⟩ := E1.out _ _ o1; clear o1))
  go_end0
  exact ⟨rfl, O5.out.wr, O5.out.wk⟩
set_option maxHeartbeats 4000000 in
set_option maxRecDepth 20000 in
theorem cl_w6 (v : World) (hv : v.heap.size ≤ p) (hbe : Below v.heap.size v X) (i : Int) (x : (Int × Int × List Int) × Sl) (ht : RdV v 1 x.2 x.1.2.2.length (x.1.2.2.map (Value.int .i64))) (h1 : 0 ≤ x.1.1 ∧ x.1.1 ≤ 4294967295) (h2 : 0 ≤ x.1.2.1 ∧ x.1.2.1 ≤ 4294967295) (h3 : x.1.2.2.length ≤ 65536 ∧ ∀ t ∈ x.1.2.2, 0 ≤ t ∧ t ≤ 4294967295) (hl : l.length + (dscL x.1).length ≤ 800000000) : Calls Try.prog 71 #[.int .i64 i, .agg (dEnc x), .pointer (some ⟨q, 0, none⟩), .pointer (some ⟨nb, 0, none⟩)] X (PostZ X p B (l ++ dscL x.1)) := by
  have hl1 : (dscL x.1).length = (numL 4 x.1.1).length + (numL 4 x.1.2.1).length + (rowL (numL 4) x.1.2.2).length := by unfold dscL; simp only [List.length_append]; omega
  have O1 := hid_of (Wo.start h hb #[.int .i64 x.1.1, .int .i64 x.1.2.1, .slice x.2.a x.2.n x.2.c] 47)
  have E1 : Hid (∀ Y l', Wo X Y p B q ob nb c #[.int .i64 x.1.1, .int .i64 x.1.2.1, .slice x.2.a x.2.n x.2.c] 47 l' → Y.cell? ⟨q, 0, none⟩ = some (.pointer (some ⟨p, 0, none⟩)) ∧ Y.cell? ⟨X.heap.size, 0, none⟩ = some (.int .i64 x.1.1) ∧ Y.cell? ⟨X.heap.size, 1, none⟩ = some (.int .i64 x.1.2.1) ∧ Y.cell? ⟨X.heap.size, 2, none⟩ = some (.slice x.2.a x.2.n x.2.c) ∧ Y.cell? ⟨nb, 0, none⟩ = some (.func (.func 57) #[] #[.pointer (some ⟨q, 0, none⟩)])) := fun Y l' hY => ⟨blk_cell hY.wb.wq 0, blk_cell hY.bx 0, blk_cell hY.bx 1, blk_cell hY.bx 2, blk_cell hY.wb.nn 0⟩
  have NZ : Hid (∀ Y l' n, Wo X Y p B q ob nb c #[.int .i64 x.1.1, .int .i64 x.1.2.1, .slice x.2.a x.2.n x.2.c] 47 l' → 0 ≤ n → n ≤ 4294967295 → l'.length ≤ 800000000 → Calls Try.prog 58 #[.pointer (some ⟨p, 0, none⟩), .int .i64 n] Y fun e Z => e = .returned (.tuple #[]) ∧ Wo X Z p B q ob nb c #[.int .i64 x.1.1, .int .i64 x.1.2.1, .slice x.2.a x.2.n x.2.c] 47 (l' ++ numL 4 n)) := fun Y l' n hY n0 n1 hl' => (number_z Y p B l' hY.wr n n0 n1 (by omega)).mono fun e Z hh => ⟨hh.1, hY.next hh.2.1 hh.2.2⟩
  have RZ : Hid (∀ Y l', Wo X Y p B q ob nb c #[.int .i64 x.1.1, .int .i64 x.1.2.1, .slice x.2.a x.2.n x.2.c] 47 l' → l'.length + (rowL (numL 4) x.1.2.2).length ≤ 800000000 → Calls Try.prog 65 #[.pointer (some ⟨p, 0, none⟩), .slice x.2.a x.2.n x.2.c, .func (.func 57) #[] #[.pointer (some ⟨q, 0, none⟩)]] Y fun e Z => e = .returned (.tuple #[]) ∧ Wo X Z p B q ob nb c #[.int .i64 x.1.1, .int .i64 x.1.2.1, .slice x.2.a x.2.n x.2.c] 47 (l' ++ rowL (numL 4) x.1.2.2)) := fun Y l' hY hl' =>
    (wrow_num v Y p B q l' hY.wr hv (hY.wk.bel h hv hbe) x.1.2.2 x.2 ht (numL 4) h3.1 hl' (fun i hi Z l2 hZ hk hz => by
      have hm := h3.2 _ (List.getElem_mem hi)
      exact cl_w1 Z p B q ob nb c l2 hZ (hY.wb.wk hY.wr hk) i _ hm.1 hm.2 (by omega))).mono fun e Z hh => ⟨hh.1, hY.next hh.2.1 hh.2.2⟩
  have hfl : l ++ dscL x.1 = l ++ numL 4 x.1.1 ++ numL 4 x.1.2.1 ++ rowL (numL 4) x.1.2.2 := by unfold dscL; simp only [List.append_assoc]
  rw [hfl]
  obtain ⟨⟨ty, sz, tags⟩, ⟨sa, sn, sc⟩⟩ := x
  unfold dEnc
  simp only at *
  obtain ⟨c1, c2, c3, c4, c5⟩ := E1.out _ _ O1.out
  clear h hb hfl ht
  go_enter Try.func71, Try.ntmps71
  go_wp2_with (first
    | (go_at_call 65; refine (RZ.out _ _ O3.out (by simp only [List.length_append]; omega)).mono ?_; rintro e w3 ⟨rfl, o3⟩; have O4 := hid_of o3; clear o3)
    | (go_at_call 58; have hx := O2; clear hx; refine (NZ.out _ _ sz O2.out (by omega) (by omega) (by simp only [List.length_append]; omega)).mono ?_; rintro e w2 ⟨rfl, o2⟩; have O3 := hid_of o2; obtain ⟨d1, d2, d3, d4, d5⟩ := E1.out _ _ o2; clear o2)
    | (go_at_call 58; refine (NZ.out _ _ ty O1.out (by omega) (by omega) (by omega)).mono ?_; rintro e w1 ⟨rfl, o1⟩; have O2 := hid_of o1; obtain ⟨b1, b2, b3, b4, b5⟩ := E1.out _ _ o1; clear o1))
  go_end0
  exact ⟨rfl, O4.out.wr, O4.out.wk⟩
end
end Go.Proofs.Ytmfdomabegaidaa
