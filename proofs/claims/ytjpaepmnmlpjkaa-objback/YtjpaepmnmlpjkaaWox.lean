/-
  Layer 7: the writer writes an object, and its sum.
-/
import Derived.Test.YtjpaepmnmlpjkaaWob
import Derived.Test.YtjpaepmnmlpjkaaWby
namespace Go.Proofs.Ytjpaepmnmlpjkaa
set_option linter.unusedVariables false
set_option linter.unusedSimpArgs false
open Go.ChangeShapes Go.WideShapes Go.ChangeAt Go.RowKit
attribute [local go_sem] Oc.at0 Oc.at1 Oc.at2 Oc.at3 Oc.at4 Oc.at5 Oc.at6 Oc.at7 Oc.at8 Oc.at9 Oc.at10 Oc.at11 Oc.at12

theorem ow_rdb {X : World} {B : Nat} {a : Option Addr} {n c : Nat} {l : List Int} (h : Ow X B (.slice a n c) l) (hb : AllB l) (hl : l.length ≤ 1000000000) : RdB X a n (fun i => l.getD i 0) ∧ n = l.length := by
  have hn : n = l.length := by
    unfold Ow at h
    rcases h.2 with ⟨hv, h0⟩ | ⟨g', cap, cur, hv, _⟩
    · injection hv with _ e _; rw [e, h0]
    · injection hv
  refine ⟨⟨by unfold maxLen; omega, ?_⟩, hn⟩
  by_cases h0 : l = []
  · subst h0; exact .inl hn
  · obtain ⟨g, c2, hv, _, _⟩ := ow_at h h0
    injection hv with e1 e2 e3
    subst e1
    refine .inr ⟨g, 0, rfl, fun i hi => ?_⟩
    rw [hn] at hi
    have hm : l.getD i 0 ∈ l := by rw [List.getD_eq_getElem?_getD, List.getElem?_eq_getElem hi]; exact List.getElem_mem hi
    rw [Nat.zero_add]
    exact ⟨(ow_cell h i hi).1, hb _ hm⟩
/-- The boxes, made. -/
def V2 (w : World) (p : Nat) (c : Oc) : World := (w.alloc (.cells #[.pointer (some ⟨p, 0, none⟩)] 50)).alloc (.cells c.cells 31)
theorem V2_size (w : World) (p : Nat) (c : Oc) : (V2 w p c).heap.size = w.heap.size + 2 := by simp [V2]
theorem mk_boxes (v w : World) (p : Nat) (c : Oc) (hp : w.heap[p]? = some (.cells #[.slice none 0 0] 52 (0, 0))) (hv : v.heap.size ≤ p) (hb : Below v.heap.size v w) :
    ∃ Y, (store ⟨w.heap.size + 2, 0, none⟩ (.func (.func 59) #[] #[.pointer (some ⟨w.heap.size, 0, none⟩)])).run Try.prog ((V2 w p c).alloc (.cells #[.nilFunc] 88)) = .ok () Y ∧ Hid (Wp v w Y p (w.heap.size + 3) w.heap.size (w.heap.size + 1) (w.heap.size + 2) c []) ∧ Y.heap[p]? = some (.cells #[.slice none 0 0] 52 (0, 0)) := by
  have hpl := (Array.getElem?_eq_some_iff.1 hp).1
  obtain ⟨Y, h1, h2, h3⟩ := store_fn (V2 w p c) (.func 59) #[] #[.pointer (some ⟨w.heap.size, 0, none⟩)] 88
  have hs := V2_size w p c
  rw [hs] at h1 h2 h3
  have hbw : Below w.heap.size w (V2 w p c) := by unfold V2; go_grown
  have hbY : Below w.heap.size w Y := hbw.trans (h3.mono (by omega))
  have hpY : Y.heap[p]? = some (.cells #[.slice none 0 0] 52 (0, 0)) := (hbY.block p hpl).trans hp
  have hYs := (Array.getElem?_eq_some_iff.1 h2).1
  refine ⟨Y, h1, ⟨⟨⟨none, 0, 0, hpY, own_nil _ _ _ _⟩, by omega, by omega, by simp⟩, ⟨?_, ?_, h2, by omega, by omega, by omega, by omega, by omega, by omega⟩, Wk.below hpl hbY, hb.trans (hbY.mono hb.size)⟩, hpY⟩
  · refine (h3.block _ (by omega)).trans ?_
    unfold V2
    rw [Below.heap_alloc _ _ _ (by simp)]
    exact blk_new _ _
  · refine (h3.block _ (by omega)).trans ?_
    have := blk_new (w.alloc (.cells #[.pointer (some ⟨p, 0, none⟩)] 50)) (.cells c.cells 31)
    rw [show (w.alloc (.cells #[.pointer (some ⟨p, 0, none⟩)] 50)).heap.size = w.heap.size + 1 by simp] at this
    exact this
attribute [local go_sem ↓] appN_seal
theorem Wp.cells {v X0 X : World} {p B q ob nb : Nat} {c : Oc} {l : List Int} (h : Wp v X0 X p B q ob nb c l) : X.cell? ⟨q, 0, none⟩ = some (.pointer (some ⟨p, 0, none⟩)) ∧ X.cell? ⟨nb, 0, none⟩ = some (.func (.func 59) #[] #[.pointer (some ⟨q, 0, none⟩)]) ∧ ∀ j, X.cell? ⟨ob, j, none⟩ = c.cells[j]? := ⟨blk_cell h.wb.wq 0, blk_cell h.wb.nn 0, fun j => blk_cell h.wb.oo j⟩
set_option maxHeartbeats 16000000 in
set_option maxRecDepth 20000 in
theorem object_w (v w : World) (p : Nat) (c : Oc) (o : Ob) (hp : w.heap[p]? = some (.cells #[.slice none 0 0] 52 (0, 0))) (hv : v.heap.size ≤ p) (hb : Below v.heap.size v w) (hr : ObR v c o) (hf : Fine o) (hl : (bodyL o).length ≤ 700000000) :
    Calls Try.prog 24 #[.pointer (some ⟨p, 0, none⟩), .agg c.cells] w fun e w' => e = .returned (.tuple #[]) ∧ Wr w' p (w.heap.size + 3) (objL o) ∧ Below v.heap.size v w' := by
  obtain ⟨Y0, hst, P0, hp0⟩ := mk_boxes v w p c hp hv hb
  have hpl := (Array.getElem?_eq_some_iff.1 hp).1
  generalize hB : w.heap.size + 3 = B at *
  -- the mark
  have hpB : p < B := by omega
  obtain ⟨v1, Y1, hrun, ho1, hg1⟩ := app_text (X := Y0.drew) (B := B) (v := .slice none 0 0) (l := []) ⟨#[67, 82, 79, 49]⟩ (own_nil _ _ _ _) (by have := P0.out.wr.hi; simpa using this) (by simp [ByteArray.size])
  have hd0 : Y0.drew.heap[p]? = some (.cells #[.slice none 0 0] 52 (0, 0)) := hp0
  obtain ⟨⟨a1, n1, c1, hv1⟩, k0, z0, R1⟩ := Wr.putz (w := Y0.drew) hd0 (fun k hk => by cases hk) ho1 hg1 hpB (by have := P0.out.wr.hi; simpa using this) (by simp [sL, ByteArray.size])
  subst hv1
  rw [List.nil_append, mark_sL] at R1
  have P1 : Hid (Wp v w (Y1.setCell ⟨p, 0, none⟩ (.slice a1 n1 c1)) p B w.heap.size (w.heap.size + 1) (w.heap.size + 2) c markL) := P0.out.drew.next hv R1.out.1 R1.out.2
  have q0 := P0.out.cells.1
  have qY1 : Y1.cell? ⟨w.heap.size, 0, none⟩ = some (.pointer (some ⟨p, 0, none⟩)) := (World.cell?_of_block (a := ⟨w.heap.size, 0, none⟩) (hg1.1.block w.heap.size (by have := P0.out.wr.hi; simp; omega) (by intro e; cases e))).trans q0
  have hne : p ≠ w.heap.size := by omega
  have qY2 := P1.out.cells.1
  have p0c : Y0.cell? ⟨p, 0, none⟩ = some (.slice none 0 0) := blk_cell hp0 0
  clear R1 ho1 hg1 hd0
  have hbl : (bodyL o).length = (textL o.name).length + (wdL o.key).length + (rowL impL o.imps).length + (rowL wdL o.code).length + (rowL prcL (prcsOf o)).length + (numL 4 o.ini).length + (rowL (numL 4) o.vars).length + (rowL (numL 4) o.shown).length + (rowL textL o.strs).length + (rowL dscL o.descs).length + (rowL fixL o.fixes).length := by unfold bodyL; simp only [List.length_append]; omega
  have hmk : markL.length = 4 := rfl
  obtain ⟨l1, hl1⟩ : ∃ l1, l1 = markL ++ textL o.name := ⟨_, rfl⟩
  have g1 : l1.length = markL.length + (textL o.name).length := by rw [hl1, List.length_append]
  obtain ⟨l2, hl2⟩ : ∃ l2, l2 = l1 ++ wdL o.key := ⟨_, rfl⟩
  have g2 : l2.length = l1.length + (wdL o.key).length := by rw [hl2, List.length_append]
  obtain ⟨l3, hl3⟩ : ∃ l3, l3 = l2 ++ rowL impL o.imps := ⟨_, rfl⟩
  have g3 : l3.length = l2.length + (rowL impL o.imps).length := by rw [hl3, List.length_append]
  obtain ⟨l4, hl4⟩ : ∃ l4, l4 = l3 ++ rowL wdL o.code := ⟨_, rfl⟩
  have g4 : l4.length = l3.length + (rowL wdL o.code).length := by rw [hl4, List.length_append]
  obtain ⟨l5, hl5⟩ : ∃ l5, l5 = l4 ++ rowL prcL (prcsOf o) := ⟨_, rfl⟩
  have g5 : l5.length = l4.length + (rowL prcL (prcsOf o)).length := by rw [hl5, List.length_append]
  obtain ⟨l6, hl6⟩ : ∃ l6, l6 = l5 ++ numL 4 o.ini := ⟨_, rfl⟩
  have g6 : l6.length = l5.length + (numL 4 o.ini).length := by rw [hl6, List.length_append]
  obtain ⟨l7, hl7⟩ : ∃ l7, l7 = l6 ++ rowL (numL 4) o.vars := ⟨_, rfl⟩
  have g7 : l7.length = l6.length + (rowL (numL 4) o.vars).length := by rw [hl7, List.length_append]
  obtain ⟨l8, hl8⟩ : ∃ l8, l8 = l7 ++ rowL (numL 4) o.shown := ⟨_, rfl⟩
  have g8 : l8.length = l7.length + (rowL (numL 4) o.shown).length := by rw [hl8, List.length_append]
  obtain ⟨l9, hl9⟩ : ∃ l9, l9 = l8 ++ rowL textL o.strs := ⟨_, rfl⟩
  have g9 : l9.length = l8.length + (rowL textL o.strs).length := by rw [hl9, List.length_append]
  obtain ⟨l10, hl10⟩ : ∃ l10, l10 = l9 ++ rowL dscL o.descs := ⟨_, rfl⟩
  have g10 : l10.length = l9.length + (rowL dscL o.descs).length := by rw [hl10, List.length_append]
  obtain ⟨l11, hl11⟩ : ∃ l11, l11 = l10 ++ rowL fixL o.fixes := ⟨_, rfl⟩
  have g11 : l11.length = l10.length + (rowL fixL o.fixes).length := by rw [hl11, List.length_append]
  have E11 : markL ++ bodyL o = l11 := by rw [hl11, hl10, hl9, hl8, hl7, hl6, hl5, hl4, hl3, hl2, hl1]; unfold bodyL; simp only [List.append_assoc]
  -- the steps
  have S0 : Hid (∀ Y, Wp v w Y p B w.heap.size (w.heap.size + 1) (w.heap.size + 2) c markL → Calls Try.prog 61 #[.pointer (some ⟨p, 0, none⟩), .string c.nm] Y fun e Z => e = .returned (.tuple #[]) ∧ Wp v w Z p B w.heap.size (w.heap.size + 1) (w.heap.size + 2) c l1) := fun Y hY => by rw [hr.nm]; rw [hl1]; exact (text_z Y p B _ hY.wr o.name hf.nm (by omega)).mono fun e Z hh => ⟨hh.1, hY.next hv hh.2.1 hh.2.2⟩
  have S1 : Hid (∀ Y, Wp v w Y p B w.heap.size (w.heap.size + 1) (w.heap.size + 2) c l1 → Calls Try.prog 62 #[.pointer (some ⟨p, 0, none⟩), .int .u32 c.key] Y fun e Z => e = .returned (.tuple #[]) ∧ Wp v w Z p B w.heap.size (w.heap.size + 1) (w.heap.size + 2) c l2) := fun Y hY => by rw [hr.key]; rw [hl2]; exact (word_z Y p B _ hY.wr o.key (by omega)).mono fun e Z hh => ⟨hh.1, hY.next hv hh.2.1 hh.2.2⟩
  have S2 : Hid (∀ Y, Wp v w Y p B w.heap.size (w.heap.size + 1) (w.heap.size + 2) c l2 → Calls Try.prog 63 #[.pointer (some ⟨p, 0, none⟩), .slice c.im.a c.im.n c.im.c, .func (.func 64) #[] #[.pointer (some ⟨w.heap.size, 0, none⟩)]] Y fun e Z => e = .returned (.tuple #[]) ∧ Wp v w Z p B w.heap.size (w.heap.size + 1) (w.heap.size + 2) c l3) := fun Y hY => by rw [hl3]; exact row_im hv hr hf hY (by omega)
  have S3 : Hid (∀ Y, Wp v w Y p B w.heap.size (w.heap.size + 1) (w.heap.size + 2) c l3 → Calls Try.prog 65 #[.pointer (some ⟨p, 0, none⟩), .slice c.co.a c.co.n c.co.c, .func (.func 66) #[] #[.pointer (some ⟨w.heap.size, 0, none⟩)]] Y fun e Z => e = .returned (.tuple #[]) ∧ Wp v w Z p B w.heap.size (w.heap.size + 1) (w.heap.size + 2) c l4) := fun Y hY => by rw [hl4]; exact row_co hv hr hf hY (by omega)
  have S4 : Hid (∀ Y, Wp v w Y p B w.heap.size (w.heap.size + 1) (w.heap.size + 2) c l4 → Calls Try.prog 67 #[.pointer (some ⟨p, 0, none⟩), .slice c.pr.a c.pr.n c.pr.c, .func (.func 68) #[] #[.pointer (some ⟨w.heap.size, 0, none⟩), .pointer (some ⟨w.heap.size + 1, 0, none⟩)]] Y fun e Z => e = .returned (.tuple #[]) ∧ Wp v w Z p B w.heap.size (w.heap.size + 1) (w.heap.size + 2) c l5) := fun Y hY => by rw [hl5]; exact row_pr hv hr hf hY (by omega)
  have S5 : Hid (∀ Y, Wp v w Y p B w.heap.size (w.heap.size + 1) (w.heap.size + 2) c l5 → Calls Try.prog 60 #[.pointer (some ⟨p, 0, none⟩), .int .i64 c.ini] Y fun e Z => e = .returned (.tuple #[]) ∧ Wp v w Z p B w.heap.size (w.heap.size + 1) (w.heap.size + 2) c l6) := fun Y hY => by rw [hr.ini]; rw [hl6]; exact (number_z Y p B _ hY.wr o.ini hf.ini.1 hf.ini.2 (by omega)).mono fun e Z hh => ⟨hh.1, hY.next hv hh.2.1 hh.2.2⟩
  have S6 : Hid (∀ Y, Wp v w Y p B w.heap.size (w.heap.size + 1) (w.heap.size + 2) c l6 → Calls Try.prog 67 #[.pointer (some ⟨p, 0, none⟩), .slice c.va.a c.va.n c.va.c, .func (.func 59) #[] #[.pointer (some ⟨w.heap.size, 0, none⟩)]] Y fun e Z => e = .returned (.tuple #[]) ∧ Wp v w Z p B w.heap.size (w.heap.size + 1) (w.heap.size + 2) c l7) := fun Y hY => by rw [hl7]; exact row_nu hv hY o.vars c.va hr.va hf.va (by omega)
  have S7 : Hid (∀ Y, Wp v w Y p B w.heap.size (w.heap.size + 1) (w.heap.size + 2) c l7 → Calls Try.prog 67 #[.pointer (some ⟨p, 0, none⟩), .slice c.sh.a c.sh.n c.sh.c, .func (.func 59) #[] #[.pointer (some ⟨w.heap.size, 0, none⟩)]] Y fun e Z => e = .returned (.tuple #[]) ∧ Wp v w Z p B w.heap.size (w.heap.size + 1) (w.heap.size + 2) c l8) := fun Y hY => by rw [hl8]; exact row_nu hv hY o.shown c.sh hr.sh hf.sh (by omega)
  have S8 : Hid (∀ Y, Wp v w Y p B w.heap.size (w.heap.size + 1) (w.heap.size + 2) c l8 → Calls Try.prog 70 #[.pointer (some ⟨p, 0, none⟩), .slice c.st.a c.st.n c.st.c, .func (.func 71) #[] #[.pointer (some ⟨w.heap.size, 0, none⟩)]] Y fun e Z => e = .returned (.tuple #[]) ∧ Wp v w Z p B w.heap.size (w.heap.size + 1) (w.heap.size + 2) c l9) := fun Y hY => by rw [hl9]; exact row_st hv hr hf hY (by omega)
  have S9 : Hid (∀ Y, Wp v w Y p B w.heap.size (w.heap.size + 1) (w.heap.size + 2) c l9 → Calls Try.prog 72 #[.pointer (some ⟨p, 0, none⟩), .slice c.ds.a c.ds.n c.ds.c, .func (.func 73) #[] #[.pointer (some ⟨w.heap.size, 0, none⟩), .pointer (some ⟨w.heap.size + 2, 0, none⟩)]] Y fun e Z => e = .returned (.tuple #[]) ∧ Wp v w Z p B w.heap.size (w.heap.size + 1) (w.heap.size + 2) c l10) := fun Y hY => by rw [hl10]; exact row_ds hv hr hf hY (by omega)
  have S10 : Hid (∀ Y, Wp v w Y p B w.heap.size (w.heap.size + 1) (w.heap.size + 2) c l10 → Calls Try.prog 74 #[.pointer (some ⟨p, 0, none⟩), .slice c.fx.a c.fx.n c.fx.c, .func (.func 75) #[] #[.pointer (some ⟨w.heap.size, 0, none⟩)]] Y fun e Z => e = .returned (.tuple #[]) ∧ Wp v w Z p B w.heap.size (w.heap.size + 1) (w.heap.size + 2) c l11) := fun Y hY => by rw [hl11]; exact row_fx hv hr hf hY (by omega)
  have SZ : Hid (∀ Y, Wp v w Y p B w.heap.size (w.heap.size + 1) (w.heap.size + 2) c (markL ++ bodyL o) → ∃ a n k, Y.cell? ⟨p, 0, none⟩ = some (.slice a n k) ∧ Calls Try.prog 30 #[.slice a n k] Y fun e Z => e = .returned (.int .u32 (fnv (fun i => (markL ++ bodyL o).getD i 0) (markL ++ bodyL o).length)) ∧ Z = Y) := fun Y hY => by
    obtain ⟨a, n, k, h1, h2⟩ := hY.wr.lies
    have hby : AllB (markL ++ bodyL o) := AllB.app (by unfold markL; intro x hx; simp only [List.mem_cons, List.not_mem_nil, or_false] at hx; omega) (body_by hf)
    obtain ⟨r1, r2⟩ := ow_rdb h2 hby hY.wr.few
    refine ⟨a, n, k, blk_cell h1 0, ?_⟩
    have := sum_any a n k _ Y r1
    rw [r2] at this ⊢
    exact this
  have WZ : Hid (∀ Y x, Wp v w Y p B w.heap.size (w.heap.size + 1) (w.heap.size + 2) c (markL ++ bodyL o) → Calls Try.prog 62 #[.pointer (some ⟨p, 0, none⟩), .int .u32 x] Y fun e Z => e = .returned (.tuple #[]) ∧ Wp v w Z p B w.heap.size (w.heap.size + 1) (w.heap.size + 2) c (markL ++ bodyL o ++ wdL x)) := fun Y x hY => (word_z Y p B _ hY.wr x (by rw [List.length_append]; simp [markL]; omega)).mono fun e Z hh => ⟨hh.1, hY.next hv hh.2.1 hh.2.2⟩
  have FIN : Hid (∀ Y, Wp v w Y p B w.heap.size (w.heap.size + 1) (w.heap.size + 2) c (markL ++ bodyL o ++ wdL (fnv (fun i => (markL ++ bodyL o).getD i 0) (markL ++ bodyL o).length)) → Wr Y p B (objL o) ∧ Below v.heap.size v Y) := fun Y hY => ⟨hY.wr, hY.be⟩
  generalize fnv (fun i => (markL ++ bodyL o).getD i 0) (markL ++ bodyL o).length = sm at *
  generalize objL o = fin at *
  rw [E11] at SZ WZ FIN
  clear E11 hp hb hr hf hl hp0 hbl hmk g1 g2 g3 g4 g5 g6 g7 g8 g9 g10 g11
  clear hl11 hl10 hl9 hl8 hl7 hl6 hl5 hl4 hl3 hl2 hl1
  unfold V2 at hst
  go_enter Try.func24, Try.ntmps24
  go_wp2
  refine wp_region_held_drew (S := (fun X => X.cell? ⟨w.heap.size, 0, none⟩ = some (.pointer (some ⟨p, 0, none⟩)))) (by kernel_rfl) q0 (fun hHeld => ?_)
  refine wpAnyH_take (i := 0) (v := ?_) rfl (by kernel_rfl) (by kernel_rfl) (by kernel_rfl) (fun _ _ _ h => h) (Or.inl ⟨by kernel_rfl, ?y0m⟩) hHeld ?r0m
  case y0m => (intro wq hSw; go_simp; try rfl)
  simp only [Act.put, List.setIfInBounds_toArray, List.set_cons_zero, List.set_cons_succ]
  refine wpAnyH_take (i := 1) (v := ?_) rfl (by kernel_rfl) (by kernel_rfl) (by kernel_rfl) (fun _ _ _ h => h) (Or.inl ⟨by kernel_rfl, ?y1m⟩) hHeld ?r1m
  case y1m => (intro wq hSw; go_simp; try rfl)
  simp only [Act.put, List.setIfInBounds_toArray, List.set_cons_zero, List.set_cons_succ]
  refine wpAnyH_take (i := 2) (v := ?_) rfl (by kernel_rfl) (by kernel_rfl) (by kernel_rfl) (fun _ _ _ h => h) (Or.inl ⟨by kernel_rfl, ?y2m⟩) hHeld ?r2m
  case y2m => (intro wq hSw; go_simp; try rfl)
  simp only [Act.put, List.setIfInBounds_toArray, List.set_cons_zero, List.set_cons_succ]
  refine wpAnyH_take (i := 3) (v := ?_) rfl (by kernel_rfl) (by kernel_rfl) (by kernel_rfl) (fun _ _ _ h => h) (Or.inl ⟨by kernel_rfl, ?y3m⟩) hHeld ?r3m
  case y3m => (intro wq hSw; go_simp; try rfl)
  simp only [Act.put, List.setIfInBounds_toArray, List.set_cons_zero, List.set_cons_succ]
  refine wpAnyH_ready (rs := [4]) (by kernel_rfl) (by simp) ?_
  refine AllReadyH.cons rfl (fun K hK => ?_) AllReadyH.nil
  go_simp
  refine hK.out _ _ hHeld (fun _ => ?_)
  clear hK K
  refine wpAnyH_ready (rs := [5]) (by kernel_rfl) (by simp) ?_
  refine AllReadyH.cons rfl (fun K hK => ?_) AllReadyH.nil
  go_simp
  refine hK.out _ _ qY1 (fun _ => ?_)
  clear hK K
  refine wpAnyH_take (i := 6) (v := ?_) rfl (by kernel_rfl) (by kernel_rfl) (by kernel_rfl) (fun _ _ _ h => h) (Or.inl ⟨by kernel_rfl, ?y6m⟩) qY1 ?r6m
  case y6m => (intro wq hSw; go_simp; try rfl)
  simp only [Act.put, List.setIfInBounds_toArray, List.set_cons_zero, List.set_cons_succ]
  refine wpAnyH_take (i := 7) (v := ?_) rfl (by kernel_rfl) (by kernel_rfl) (by kernel_rfl) (fun _ _ _ h => h) (Or.inl ⟨by kernel_rfl, ?y7m⟩) qY1 ?r7m
  case y7m => (intro wq hSw; go_simp; try rfl)
  simp only [Act.put, List.setIfInBounds_toArray, List.set_cons_zero, List.set_cons_succ]
  refine wpAnyH_ready (rs := [8]) (by kernel_rfl) (by simp) ?_
  refine AllReadyH.cons rfl (fun K hK => ?_) AllReadyH.nil
  go_simp
  refine hK.out _ _ qY2 (fun _ => ?_)
  clear hK K
  refine wpAnyH_done (by kernel_rfl) ?_ _
  clear hHeld
  obtain ⟨q1, nn1, oo1⟩ := P1.out.cells
  have oc : (Y1.setCell ⟨p, 0, none⟩ (.slice a1 n1 c1)).cell? ⟨w.heap.size + 1, 0, none⟩ = some (.string c.nm) := oo1 0
  clear oo1 q0 qY1 k0 z0 hrun hst p0c
  generalize (Y1.setCell ⟨p, 0, none⟩ (.slice a1 n1 c1)) = Z1 at *
  go_wp2_with (first
    | (go_at_call 74; have hx := P11; clear hx; refine (S10.out _ P11.out).mono ?_; rintro e w10 ⟨rfl, pp⟩; have P12 := hid_of pp; clear pp; obtain ⟨q12, nn12, oo12⟩ := P12.out.cells; clear oo12)
    | (go_at_call 72; have hx := P10; clear hx; refine (S9.out _ P10.out).mono ?_; rintro e w9 ⟨rfl, pp⟩; have P11 := hid_of pp; clear pp; obtain ⟨q11, nn11, oo11⟩ := P11.out.cells; have oc9 : w9.cell? ⟨w.heap.size + 1, 12, none⟩ = some (.slice c.fx.a c.fx.n c.fx.c) := oo11 12; clear oo11)
    | (go_at_call 70; have hx := P9; clear hx; refine (S8.out _ P9.out).mono ?_; rintro e w8 ⟨rfl, pp⟩; have P10 := hid_of pp; clear pp; obtain ⟨q10, nn10, oo10⟩ := P10.out.cells; have oc8 : w8.cell? ⟨w.heap.size + 1, 11, none⟩ = some (.slice c.ds.a c.ds.n c.ds.c) := oo10 11; clear oo10)
    | (go_at_call 67; have hx := P8; clear hx; refine (S7.out _ P8.out).mono ?_; rintro e w7 ⟨rfl, pp⟩; have P9 := hid_of pp; clear pp; obtain ⟨q9, nn9, oo9⟩ := P9.out.cells; have oc7 : w7.cell? ⟨w.heap.size + 1, 10, none⟩ = some (.slice c.st.a c.st.n c.st.c) := oo9 10; clear oo9)
    | (go_at_call 67; have hx := P7; clear hx; refine (S6.out _ P7.out).mono ?_; rintro e w6 ⟨rfl, pp⟩; have P8 := hid_of pp; clear pp; obtain ⟨q8, nn8, oo8⟩ := P8.out.cells; have oc6 : w6.cell? ⟨w.heap.size + 1, 9, none⟩ = some (.slice c.sh.a c.sh.n c.sh.c) := oo8 9; clear oo8)
    | (go_at_call 60; have hx := P6; clear hx; refine (S5.out _ P6.out).mono ?_; rintro e w5 ⟨rfl, pp⟩; have P7 := hid_of pp; clear pp; obtain ⟨q7, nn7, oo7⟩ := P7.out.cells; have oc5 : w5.cell? ⟨w.heap.size + 1, 8, none⟩ = some (.slice c.va.a c.va.n c.va.c) := oo7 8; clear oo7)
    | (go_at_call 67; have hx := P5; clear hx; refine (S4.out _ P5.out).mono ?_; rintro e w4 ⟨rfl, pp⟩; have P6 := hid_of pp; clear pp; obtain ⟨q6, nn6, oo6⟩ := P6.out.cells; have oc4 : w4.cell? ⟨w.heap.size + 1, 7, none⟩ = some (.int .i64 c.ini) := oo6 7; clear oo6)
    | (go_at_call 65; have hx := P4; clear hx; refine (S3.out _ P4.out).mono ?_; rintro e w3 ⟨rfl, pp⟩; have P5 := hid_of pp; clear pp; obtain ⟨q5, nn5, oo5⟩ := P5.out.cells; have oc3 : w3.cell? ⟨w.heap.size + 1, 4, none⟩ = some (.slice c.pr.a c.pr.n c.pr.c) := oo5 4; clear oo5)
    | (go_at_call 63; have hx := P3; clear hx; refine (S2.out _ P3.out).mono ?_; rintro e w2 ⟨rfl, pp⟩; have P4 := hid_of pp; clear pp; obtain ⟨q4, nn4, oo4⟩ := P4.out.cells; have oc2 : w2.cell? ⟨w.heap.size + 1, 3, none⟩ = some (.slice c.co.a c.co.n c.co.c) := oo4 3; clear oo4)
    | (go_at_call 62; have hx := P2; clear hx; refine (S1.out _ P2.out).mono ?_; rintro e w1 ⟨rfl, pp⟩; have P3 := hid_of pp; clear pp; obtain ⟨q3, nn3, oo3⟩ := P3.out.cells; have oc1 : w1.cell? ⟨w.heap.size + 1, 2, none⟩ = some (.slice c.im.a c.im.n c.im.c) := oo3 2; clear oo3)
    | (go_at_call 61; have hx := P1; clear hx; refine (S0.out _ P1.out).mono ?_; rintro e w0 ⟨rfl, pp⟩; have P2 := hid_of pp; clear pp; obtain ⟨q2, nn2, oo2⟩ := P2.out.cells; have oc0 : w0.cell? ⟨w.heap.size + 1, 1, none⟩ = some (.int .u32 c.key) := oo2 1; clear oo2))
  obtain ⟨sa, sn, sc, scell, SC⟩ := SZ.out _ P12.out.drew
  have SCH := hid_of SC
  clear SC
  refine wp_region_held_drew (S := (fun X => X.cell? ⟨w.heap.size, 0, none⟩ = some (.pointer (some ⟨p, 0, none⟩)))) (by kernel_rfl) q12 (fun hHeld => ?_)
  refine wpAnyH_take (i := 0) (v := ?_) rfl (by kernel_rfl) (by kernel_rfl) (by kernel_rfl) (fun _ _ _ h => h) (Or.inl ⟨by kernel_rfl, ?y0n⟩) hHeld ?r0n
  case y0n => (intro wq hSw; go_simp; try rfl)
  simp only [Act.put, List.setIfInBounds_toArray, List.set_cons_zero, List.set_cons_succ]
  refine wpAnyH_take (i := 1) (v := ?_) rfl (by kernel_rfl) (by kernel_rfl) (by kernel_rfl) (fun _ _ _ h => h) (Or.inl ⟨by kernel_rfl, ?y1n⟩) hHeld ?r1n
  case y1n => (intro wq hSw; go_simp; try rfl)
  simp only [Act.put, List.setIfInBounds_toArray, List.set_cons_zero, List.set_cons_succ]
  refine wpAnyH_take (i := 2) (v := ?_) rfl (by kernel_rfl) (by kernel_rfl) (by kernel_rfl) (fun _ _ _ h => h) (Or.inl ⟨by kernel_rfl, ?y2n⟩) hHeld ?r2n
  case y2n => (intro wq hSw; go_simp; try rfl)
  simp only [Act.put, List.setIfInBounds_toArray, List.set_cons_zero, List.set_cons_succ]
  refine wpAnyH_take (i := 3) (v := ?_) rfl (by kernel_rfl) (by kernel_rfl) (by kernel_rfl) (fun _ _ _ h => h) (Or.inl ⟨by kernel_rfl, ?y3n⟩) hHeld ?r3n
  case y3n => (intro wq hSw; go_simp; try rfl)
  simp only [Act.put, List.setIfInBounds_toArray, List.set_cons_zero, List.set_cons_succ]
  refine wpAnyH_ready (rs := [4]) (by kernel_rfl) (by simp) ?_
  refine AllReadyH.cons rfl (fun K hK => ?_) AllReadyH.nil
  go_simp
  refine hK.out _ _ hHeld (fun _ => ?_)
  clear hK K
  refine wpAnyH_ready (rs := [5]) (by kernel_rfl) (by simp) ?_
  refine AllReadyH.cons rfl (fun K hK => ?_) AllReadyH.nil
  go_simp
  go_wp2_with (go_at_call 30; refine SCH.out.mono ?_; rintro e w20 ⟨rfl, hw⟩; rw [hw]; clear hw)
  refine hK.out _ _ hHeld (fun _ => ?_)
  clear hK K
  refine wpAnyH_ready (rs := [6]) (by kernel_rfl) (by simp) ?_
  refine AllReadyH.cons rfl (fun K hK => ?_) AllReadyH.nil
  go_simp
  go_wp2_with (go_at_call 62; refine (WZ.out _ _ P12.out.drew).mono ?_; rintro e w21 ⟨rfl, pp⟩; have P13 := hid_of pp; clear pp)
  refine hK.out _ _ P13.out.cells.1 (fun _ => ?_)
  clear hK K
  refine wpAnyH_done (by kernel_rfl) ?_ _
  go_wp2_with fail
  go_end0
  exact ⟨rfl, FIN.out _ P13.out⟩
end Go.Proofs.Ytjpaepmnmlpjkaa
