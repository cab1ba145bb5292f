/-
  Layer 7: the writer writes an object, and its sum.
-/
import Derived.Test.YtmfdomabegaidaaWpr
namespace Go.Proofs.Ytmfdomabegaidaa
set_option linter.unusedVariables false
set_option linter.unusedSimpArgs false
open Go.ChangeShapes Go.WideShapes Go.ChangeAt Go.RowKit
attribute [local go_sem] Oc.at0 Oc.at1 Oc.at2 Oc.at3 Oc.at4 Oc.at5 Oc.at6 Oc.at7 Oc.at8 Oc.at9 Oc.at10 Oc.at11 Oc.at12

def markL : List Int := [67, 82, 79, 49]
theorem mark_sL : sL ⟨#[67, 82, 79, 49]⟩ = markL := by decide
/-- An object's bytes. -/
def objL (o : Ob) : List Int := markL ++ bodyL o ++ wdL (fnv (fun i => (markL ++ bodyL o).getD i 0) (markL ++ bodyL o).length)
theorem prcs_at (o : Ob) (i : Nat) (hi : i < (prcsOf o).length) : (prcsOf o)[i] = (o.procs.getD i 0, o.names.getD i ⟨#[]⟩, o.exps.getD i false) := by simp [prcsOf]
section
variable {v X0 : World} {p B q ob nb : Nat} {c : Oc} {o : Ob}
theorem row_im (hv : v.heap.size ≤ p) (hr : ObR v c o) (hf : Fine o) {X : World} {l : List Int} (h : Wp v X0 X p B q ob nb c l) (hl : l.length + (rowL impL o.imps).length ≤ 800000000) : Calls Try.prog 61 #[.pointer (some ⟨p, 0, none⟩), .slice c.im.a c.im.n c.im.c, .func (.func 62) #[] #[.pointer (some ⟨q, 0, none⟩)]] X fun e Z => e = .returned (.tuple #[]) ∧ Wp v X0 Z p B q ob nb c (l ++ rowL impL o.imps) :=
  (wrow_imp v X p B q l h.wr hv h.be o.imps c.im hr.im impL hf.im.1 hl (fun i hi Z l2 hZ hk hz => cl_w2 Z p B q ob nb c l2 hZ (h.wb.wk h.wr hk) i _ (hf.im.2 _ (List.getElem_mem hi)) hz)).mono fun e Z hh => ⟨hh.1, h.next hv hh.2.1 hh.2.2⟩
theorem row_co (hv : v.heap.size ≤ p) (hr : ObR v c o) (hf : Fine o) {X : World} {l : List Int} (h : Wp v X0 X p B q ob nb c l) (hl : l.length + (rowL wdL o.code).length ≤ 800000000) : Calls Try.prog 63 #[.pointer (some ⟨p, 0, none⟩), .slice c.co.a c.co.n c.co.c, .func (.func 64) #[] #[.pointer (some ⟨q, 0, none⟩)]] X fun e Z => e = .returned (.tuple #[]) ∧ Wp v X0 Z p B q ob nb c (l ++ rowL wdL o.code) :=
  (wrow_word v X p B q l h.wr hv h.be o.code c.co hr.co wdL hf.co hl (fun i hi Z l2 hZ hk hz => cl_w3 Z p B q ob nb c l2 hZ (h.wb.wk h.wr hk) i _ (by omega))).mono fun e Z hh => ⟨hh.1, h.next hv hh.2.1 hh.2.2⟩
theorem row_pr (hv : v.heap.size ≤ p) (hr : ObR v c o) (hf : Fine o) {X : World} {l : List Int} (h : Wp v X0 X p B q ob nb c l) (hl : l.length + (rowL prcL (prcsOf o)).length ≤ 800000000) : Calls Try.prog 65 #[.pointer (some ⟨p, 0, none⟩), .slice c.pr.a c.pr.n c.pr.c, .func (.func 66) #[] #[.pointer (some ⟨q, 0, none⟩), .pointer (some ⟨ob, 0, none⟩)]] X fun e Z => e = .returned (.tuple #[]) ∧ Wp v X0 Z p B q ob nb c (l ++ rowL prcL (prcsOf o)) := by
  have hpl : (prcsOf o).length = o.procs.length := by simp [prcsOf]
  have hm : (prcsOf o).map (fun x => Value.int .i64 x.1) = o.procs.map (Value.int .i64) := by
    unfold prcsOf
    rw [List.map_map]
    refine List.ext_getElem (by simp) fun i h1 h2 => ?_
    rw [List.getElem_map, List.getElem_map, List.getElem_range]
    show Value.int .i64 (o.procs.getD i 0) = _
    rw [getD_at _ _ i (by simpa using h2)]
  have hR : RdV v 1 c.pr (prcsOf o).length ((prcsOf o).map fun x => .int .i64 (x).1) := by rw [hpl, hm]; exact hr.pr
  refine (wrow_prc v X p B q ob l h.wr hv h.be (prcsOf o) c.pr hR prcL (by rw [hpl]; exact hf.pr.1) hl (fun i hi Z l2 hZ hk hz => ?_)).mono fun e Z hh => ⟨hh.1, h.next hv hh.2.1 hh.2.2⟩
  have hi1 : i < o.procs.length := by omega
  have hi2 : i < o.names.length := by rw [hf.na.1]; exact hi1
  have hi3 : i < o.exps.length := by rw [hf.ex]; exact hi1
  have hx : (prcsOf o)[i] = (o.procs[i], o.names[i], o.exps[i]) := by
    rw [prcs_at, getD_at _ _ i hi1, getD_at _ _ i hi2, getD_at _ _ i hi3]
  rw [hx] at hz ⊢
  exact cl_w4 v Z p B q ob nb c l2 hZ (h.wb.wk h.wr hk) hv (hk.bel h.wr hv h.be) o.names o.exps hr.na hr.ex i hi2 hi3 _ rfl rfl (hf.pr.2 _ (List.getElem_mem hi1)) (hf.na.2 _ (List.getElem_mem hi2)) hz
theorem row_nu (hv : v.heap.size ≤ p) {X : World} {l : List Int} (h : Wp v X0 X p B q ob nb c l) (xs : List Int) (s : Sl) (hs : RdV v 1 s xs.length (xs.map (Value.int .i64))) (hx : xs.length ≤ 65536 ∧ ∀ x ∈ xs, 0 ≤ x ∧ x ≤ 4294967295) (hl : l.length + (rowL (numL 4) xs).length ≤ 800000000) : Calls Try.prog 65 #[.pointer (some ⟨p, 0, none⟩), .slice s.a s.n s.c, .func (.func 57) #[] #[.pointer (some ⟨q, 0, none⟩)]] X fun e Z => e = .returned (.tuple #[]) ∧ Wp v X0 Z p B q ob nb c (l ++ rowL (numL 4) xs) :=
  (wrow_num v X p B q l h.wr hv h.be xs s hs (numL 4) hx.1 hl (fun i hi Z l2 hZ hk hz => by
    have hm := hx.2 _ (List.getElem_mem hi)
    exact cl_w1 Z p B q ob nb c l2 hZ (h.wb.wk h.wr hk) i _ hm.1 hm.2 (by omega))).mono fun e Z hh => ⟨hh.1, h.next hv hh.2.1 hh.2.2⟩
theorem row_st (hv : v.heap.size ≤ p) (hr : ObR v c o) (hf : Fine o) {X : World} {l : List Int} (h : Wp v X0 X p B q ob nb c l) (hl : l.length + (rowL textL o.strs).length ≤ 800000000) : Calls Try.prog 68 #[.pointer (some ⟨p, 0, none⟩), .slice c.st.a c.st.n c.st.c, .func (.func 69) #[] #[.pointer (some ⟨q, 0, none⟩)]] X fun e Z => e = .returned (.tuple #[]) ∧ Wp v X0 Z p B q ob nb c (l ++ rowL textL o.strs) :=
  (wrow_str v X p B q l h.wr hv h.be o.strs c.st hr.st textL hf.st.1 hl (fun i hi Z l2 hZ hk hz => cl_w5 Z p B q ob nb c l2 hZ (h.wb.wk h.wr hk) i _ (hf.st.2 _ (List.getElem_mem hi)) (by omega))).mono fun e Z hh => ⟨hh.1, h.next hv hh.2.1 hh.2.2⟩
theorem row_ds (hv : v.heap.size ≤ p) (hr : ObR v c o) (hf : Fine o) {X : World} {l : List Int} (h : Wp v X0 X p B q ob nb c l) (hl : l.length + (rowL dscL o.descs).length ≤ 800000000) : Calls Try.prog 70 #[.pointer (some ⟨p, 0, none⟩), .slice c.ds.a c.ds.n c.ds.c, .func (.func 71) #[] #[.pointer (some ⟨q, 0, none⟩), .pointer (some ⟨nb, 0, none⟩)]] X fun e Z => e = .returned (.tuple #[]) ∧ Wp v X0 Z p B q ob nb c (l ++ rowL dscL o.descs) := by
  obtain ⟨xs, e1, e2, e3⟩ := hr.ds
  have hL : rowL dscL o.descs = rowL (fun x => dscL x.1) xs := by unfold rowL; rw [← e1, List.length_map, List.map_map]; rfl
  have hlen : xs.length = o.descs.length := by rw [← e1, List.length_map]
  rw [hL] at hl ⊢
  refine (wrow_dsc v X p B q nb l h.wr hv h.be xs c.ds e2 (fun x => dscL x.1) (by rw [hlen]; exact hf.ds.1) hl (fun i hi Z l2 hZ hk hz => ?_)).mono fun e Z hh => ⟨hh.1, h.next hv hh.2.1 hh.2.2⟩
  have hm := hf.ds.2 (xs[i]).1 (by rw [← e1]; exact List.mem_map.2 ⟨_, List.getElem_mem hi, rfl⟩)
  exact cl_w6 Z p B q ob nb c l2 hZ (h.wb.wk h.wr hk) v hv (hk.bel h.wr hv h.be) i _ (e3 _ (List.getElem_mem hi)) hm.1 hm.2.1 hm.2.2 hz
theorem row_fx (hv : v.heap.size ≤ p) (hr : ObR v c o) (hf : Fine o) {X : World} {l : List Int} (h : Wp v X0 X p B q ob nb c l) (hl : l.length + (rowL fixL o.fixes).length ≤ 800000000) : Calls Try.prog 72 #[.pointer (some ⟨p, 0, none⟩), .slice c.fx.a c.fx.n c.fx.c, .func (.func 73) #[] #[.pointer (some ⟨q, 0, none⟩)]] X fun e Z => e = .returned (.tuple #[]) ∧ Wp v X0 Z p B q ob nb c (l ++ rowL fixL o.fixes) :=
  (wrow_fix v X p B q l h.wr hv h.be o.fixes c.fx hr.fx fixL hf.fx.1 hl (fun i hi Z l2 hZ hk hz => by
    have hm := hf.fx.2 _ (List.getElem_mem hi)
    exact cl_w7 Z p B q ob nb c l2 hZ (h.wb.wk h.wr hk) i _ hm.1 hm.2.1 hm.2.2.1 hm.2.2.2 hz)).mono fun e Z hh => ⟨hh.1, h.next hv hh.2.1 hh.2.2⟩
end
end Go.Proofs.Ytmfdomabegaidaa
