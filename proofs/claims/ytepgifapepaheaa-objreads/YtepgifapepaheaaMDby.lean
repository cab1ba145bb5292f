/-
  Layer 7: an object's bytes are read as the object, and not with more behind; rows of bytes that are put together.
  Layer 7, the document's side: numbers, texts and words behind bytes, in place.
  Layer 7, the document's side: an object's bytes.
-/
import Derived.Test.YtepgifapepaheaaMOneW
import Derived.Test.YtepgifapepaheaaMDds
import Derived.Deep.DeepAppendWide
import Derived.Laws.OwnMore
import Derived.Test.YtepgifapepaheaaWob
import Derived.Lib.SlBytesConst
import Derived.Test.YtepgifapepaheaaMDpl
namespace Go.Proofs.Ytepgifapepaheaa
set_option linter.unusedVariables false
set_option linter.unusedSimpArgs false
open Go.ChangeShapes Go.WideShapes Go.ChangeAt Go.RowKit
attribute [local go_sem ↓] loadO_seal storeO_seal

theorem objL_len (o : Ob) : (objL o).length = (bodyL o).length + 4 + 4 := by
  unfold objL
  rw [List.length_append, List.length_append]
  have h1 : markL.length = 4 := rfl
  have h2 : ∀ x, (wdL x).length = 4 := fun _ => rfl
  rw [h1, h2]
  omega
theorem mark_nums : strOfNums markL = markS := by decide
theorem bl_lies {f : Nat → Int} {l : List Int} (h : Lies f 0 l) : bl f l.length = l := by
  refine List.ext_getElem (by simp [bl]) fun i h1 h2 => ?_
  have := h i h2
  rw [Nat.zero_add, List.getD_eq_getElem?_getD, List.getElem?_eq_getElem h2] at this
  simpa [bl] using this
theorem body_read {f : Nat → Int} {e : Nat} {o : Ob} (hs : Small o) (h : Lies f 0 (markL ++ bodyL o)) (he : (bodyL o).length + 4 ≤ e) (he2 : e ≤ 1048576) : strOfNums (bl f 4) = markS ∧ objS f e ⟨4, false⟩ = (o, ⟨4 + (bodyL o).length, false⟩) := by
  refine ⟨?_, ?_⟩
  · have := bl_lies h.left
    rw [show markL.length = 4 from rfl] at this
    rw [this, mark_nums]
  · have hb := h.right
    rw [show 0 + markL.length = 4 from rfl] at hb
    exact obj_back f e he2 o 4 hs (by omega) hb
theorem got_back {f : Nat → Int} {len p : Nat} {x : Int} (hx : U32 x) (hl : p + 4 ≤ len) (h : Lies f p (wdL x)) : gotW len f (p : Int) = x := by
  have hb := word_backS f len x p hx hl h
  have hfit : fits len (p : Int) = true := by unfold fits; exact decide_eq_true (by omega)
  unfold wordS at hb
  simp only [hfit, Bool.not_false, Bool.and_self, if_true] at hb
  exact (Prod.mk.inj hb).1
theorem dec_of {f : Nat → Int} {o : Ob} (hr : rightB o = true) (hs : Small o) (ht : Tight o) (h : Lies f 0 (objL o)) : decR f (objL o).length = (0, 0) ∧ (objS f ((objL o).length - 4) ⟨4, false⟩).1 = o := by
  have hl := objL_len o
  have hbl := body_le hs ht
  have hm : Lies f 0 (markL ++ bodyL o) := by unfold objL at h; exact h.left
  obtain ⟨h1, h2⟩ := body_read (e := (objL o).length - 4) hs hm (by omega) (by omega)
  have hw : Lies f ((objL o).length - 4) (wdL (fnv (fun i => (markL ++ bodyL o).getD i 0) (markL ++ bodyL o).length)) := by
    have := h
    unfold objL at this
    have h3 := this.right
    rw [show 0 + (markL ++ bodyL o).length = (objL o).length - 4 by rw [List.length_append, show markL.length = 4 from rfl]; omega] at h3
    exact h3
  have hfn : fnv (fun i => (markL ++ bodyL o).getD i 0) (markL ++ bodyL o).length = fnv f ((objL o).length - 4) := by
    rw [show (markL ++ bodyL o).length = (objL o).length - 4 by rw [List.length_append, show markL.length = 4 from rfl]; omega]
    refine (fnv_eq _ _ _ fun i hi => ?_).symm
    have := hm i (by rw [List.length_append, show markL.length = 4 from rfl]; omega)
    rw [Nat.zero_add] at this
    exact this
  rw [hfn] at hw
  have hbd := fnv_bd f ((objL o).length - 4)
  have hg : gotW (objL o).length f (((objL o).length - 4 : Nat) : Int) = fnv f ((objL o).length - 4) := by
    exact got_back hbd (by omega) hw
  refine ⟨?_, by rw [h2]⟩
  unfold decR
  rw [if_pos ⟨by omega, by omega, h1⟩, if_pos hg, h2]
  simp only
  rw [if_neg (by simp; omega), if_pos hr]
theorem dec_more {f : Nat → Int} {o : Ob} {len : Nat} (hs : Small o) (ht : Tight o) (h : Lies f 0 (markL ++ bodyL o)) (hlen : (bodyL o).length + 8 < len) : (decR f len).2 ≠ 0 := by
  unfold decR
  split
  · rename_i h1
    split
    · obtain ⟨_, h2⟩ := body_read (e := len - 4) hs h (by omega) (by omega)
      rw [h2]
      simp only
      rw [if_pos (Or.inr (by omega))]
      simp
    · simp
  · simp
theorem lies_self (l : List Int) : Lies (fun i => l.getD i 0) 0 l := fun j hj => by rw [Nat.zero_add]
theorem lies_pre {f : Nat → Int} {a b : List Int} (h : Lies f 0 (a ++ b)) : Lies f 0 a := h.left
/-- A row of bytes of the call's own, as one that is handed on. -/
theorem ow_src {X : World} {B : Nat} {a : Option Addr} {n c : Nat} {l : List Int} (h : Ow X B (.slice a n c) l) (hb : AllB l) (hl : l.length ≤ 140737488351232) : Src X a n c (fun i => l.getD i 0) ∧ n = l.length ∧ n ≤ c := by
  have hn : n = l.length ∧ n ≤ c ∧ (a = none → n = 0 ∧ c = 0) := by
    unfold Ow at h
    rcases h.2 with ⟨hv, h0⟩ | ⟨g', cap, cur, hv, _, _, hc, _⟩
    · injection hv with e1 e2 e3; exact ⟨by omega, by omega, fun _ => ⟨by omega, by omega⟩⟩
    · injection hv with e1 e2 e3; exact ⟨e2, by rw [e2, e3]; exact hc, fun e => by rw [e] at e1; cases e1⟩
  refine ⟨⟨⟨by unfold maxLen; omega, ?_⟩, hn.2.2, by omega⟩, hn.1, hn.2.1⟩
  by_cases h0 : l = []
  · subst h0; exact .inl hn.1
  · obtain ⟨g, c2, hv, _, _⟩ := ow_at h h0
    injection hv with e1 e2 e3
    subst e1
    refine .inr ⟨g, 0, rfl, fun i hi => ?_⟩
    rw [hn.1] at hi
    have hm : l.getD i 0 ∈ l := by rw [List.getD_eq_getElem?_getD, List.getElem?_eq_getElem hi]; exact List.getElem_mem hi
    rw [Nat.zero_add]
    exact ⟨(ow_cell h i hi).1, hb _ hm⟩
def mkN (t : TypeId) (l c : Value) : Sem Value := Instr.makeSlice t l c
theorem mkN_seal (t : TypeId) (l c : Value) : Instr.makeSlice t l c = mkN t l c := rfl
theorem make_row (X : World) (B c : Nat) (hB : B ≤ X.heap.size) (hc : c ≤ 200000000000000) : ∃ Y, (mkN 22 (.int .i64 0) (.int .i64 (c : Int))).run Try.prog X = .ok (.slice (some ⟨X.heap.size, 0, none⟩) 0 c) Y ∧ Ow Y B (.slice (some ⟨X.heap.size, 0, none⟩) 0 c) [] ∧ X.grownBy Y none := by
  obtain ⟨i0, hi0, hz0, hz1, hz2⟩ := info_parts info5
  exact run_make_own (P := Try.prog) X B 22 5 i0 (.int .u8 0) 1 Try.underlying22 hi0 hz0 hz1 .i64 .i64 c (by rw [hz2]; omega) (by unfold maxLen; omega) hB
/-- Bytes put behind a row of the call's own. -/
theorem app_bytes {X : World} {B : Nat} {v : Value} {l : List Int} (a : Option Addr) (m c : Nat) (f : Nat → Int) (h : Ow X B v l) (hr : RdB X a m f) (hnil : a = none → m = 0 ∧ c = 0) (hB : B ≤ X.heap.size) (hn : l.length + m ≤ 200000000000000) (hl : 0 < l.length ∨ 0 < m) :
    ∃ (v' : Value) (Y : World), (appN #[22, 22] 22 #[v, .slice a m c]).run Try.prog X = .ok v' Y ∧ Ow Y B v' (l ++ bl f m) ∧ X.grownBy Y v.ownBlock := by
  obtain ⟨i0, hi0, hz0, hz1, hz2⟩ := info_parts info5
  by_cases hm : m = 0
  · subst hm
    have hv : ∃ g k, v = .slice (some ⟨g, 0, none⟩) l.length k ∧ l.length ≤ k := by
      unfold Ow at h
      rcases h.2 with ⟨hv, h0⟩ | ⟨g', cap, cur, hv, _, _, hc, _⟩
      · omega
      · exact ⟨g', cap, hv, hc⟩
    obtain ⟨g, k, rfl, hk⟩ := hv
    refine ⟨_, X, ?_, by simpa [bl] using h, ⟨rfl, rfl, rfl, Nat.le_refl _, fun _ _ _ => rfl⟩⟩
    unfold appN
    cases a with
    | none => simp [Builtin.append_, run_underlying Try.underlying22, sizeOf, typeInfo, hi0, hz1, Builtin.lenOf, hk, run_firstCells_none, storeCells, Addr.add_lit]
    | some ad => simp [Builtin.append_, run_underlying Try.underlying22, sizeOf, typeInfo, hi0, hz1, Builtin.lenOf, hk, Builtin.firstCells, loadCells, loadCellsFrom, storeCells, Addr.add_lit]
  · obtain ⟨b, off, rfl, hc⟩ : ∃ b off, a = some ⟨b, off, none⟩ ∧ ∀ i, i < m → X.cell? ⟨b, off + i, none⟩ = some (.int .u8 (f i)) := by
      rcases hr.2 with h0 | ⟨b, off, e, h1⟩
      · omega
      · exact ⟨b, off, e, fun i hi => (h1 i hi).1⟩
    obtain ⟨v', Y, h1, h2, h3, _⟩ := run_append_own_wide (P := Try.prog) X B 22 22 5 i0 (.int .u8 0) 1 1 Try.underlying22 hi0 hz0 hz1 hz2 rfl (by decide) v l.length (u8s l) h ⟨b, off, none⟩ m c (u8s (bl f m)) (by simp [u8s_len, bl_len]) (fun j u hu => by
      have hj : j < m := by have := (List.getElem?_eq_some_iff.1 hu).1; rwa [u8s_len, bl_len] at this
      rw [Go.WideShapes.add_plain, hc j hj, ← hu]
      simp [u8s, bl, hj]) (u8s_one _) (by unfold maxLen; omega) (by omega) hB
    refine ⟨v', Y, h1, ?_, h3⟩
    unfold Ow
    rw [List.length_append, bl_len, u8s_app]
    exact h2
end Go.Proofs.Ytepgifapepaheaa

namespace Go.Proofs.Ytepgifapepaheaa
set_option linter.unusedVariables false
set_option linter.unusedSimpArgs false
open Go.ChangeShapes Go.WideShapes Go.ChangeAt Go.RowKit

set_option maxHeartbeats 1000000 in
theorem rput_any (B : Nat) (v : Value) (l : List Int) (n : Int) (w : World) (h : Ow w B v l) (hB : B ≤ w.heap.size) (n0 : 0 ≤ n) (n1 : n ≤ 4294967295) (hm : l.length + 5 ≤ 140737488355328) :
    Calls Try.prog 87 #[v, .int .i64 n] w fun e w' => ∃ v', e = .returned v' ∧ Ow w' B v' (l ++ numL 4 n) ∧ Gr w v w' v' := by
  obtain ⟨i0, hi, hz0, hz1, hz2⟩ := info_parts info5
  have HO : Hid (w.ownsRow B 5 1 v l.length (u8s l)) := h
  have hwn : n % 4294967296 = n := by omega
  clear h
  go_enter Try.func87, Try.ntmps87
  go_wp2
  go_loopw [0, 5] (fun s x wr => ∃ (f : Nat) (m : Int) (l' : List Int), x = .int .u32 m ∧ 0 ≤ m ∧ m ≤ 4294967295 ∧ m < 128 ^ (f + 1) ∧ l' ++ numL f m = l ++ numL 4 n ∧ l'.length + f = l.length + 4 ∧ wr.ownsRow B 5 1 s l'.length (u8s l') ∧ Hid (Gr w v wr s)) (fun _ x _ => (intOf x).toNat)
  case atStart => exact ⟨4, n, l, by go_num, n0, n1, by omega, rfl, rfl, HO.out, Gr.refl _ _⟩
  case round =>
    obtain ⟨f, m, l', rfl, m0, m1, hf, hl, hlen, hown, hgr⟩ := hrel
    have hsz := hgr.out.1.size
    have HL : Hid (l' ++ numL f m = l ++ numL 4 n) := hl
    have HF : Hid (m < 128 ^ (f + 1)) := hf
    clear hl hf
    by_cases hlt : 128 ≤ m
    · have hsmall : (m % 128 + 128) % 256 = m % 128 + 128 := by omega
      go_wp2_with (first
        | (at_builtin; refine wpList_append_own_at _ rfl _ _ 22 rfl B 5 i0 (.int .u8 0) 1 1 Try.underlying22 hi hz0 hz1 hz2 rfl (by decide) _ _ _ rfl (hown.alloc _) ⟨wr.heap.size, 0, none⟩ 1 1 [.int .u8 (m % 128 + 128)] rfl rfl (cell_one _ _ _) (by intro u hu; simp at hu; subst hu; rfl) (by unfold maxLen; omega) (by omega) (by simp; omega) ?_; intro s' w1 hown' hgrow _ hat)
        | go_in)
      have hgr' : Hid (Gr w v w1 s') := hgr.out.trans ((Gr.alloc wr _ _).trans (Gr.of hgrow hat))
      obtain ⟨f', rfl⟩ : ∃ f', f = f' + 1 := by
        cases f with
        | zero => have := HF.out; omega
        | succ f' => exact ⟨f', rfl⟩
      have e1 : (l' ++ [m % 128 + 128]).length = l'.length + 1 := by simp
      have hown2 : w1.ownsRow B 5 1 s' (l' ++ [m % 128 + 128]).length (u8s (l' ++ [m % 128 + 128])) := by rw [e1, u8s_app]; exact hown'
      have hl2 : (l' ++ [m % 128 + 128]) ++ numL f' (m / 128) = l ++ numL 4 n := by rw [← HL.out, numL_big f' m (by omega)]; simp
      have hf2 : m / 128 < 128 ^ (f' + 1) := by have := HF.out; rw [Int.pow_succ] at this; omega
      have HN : Hid (w1.ownsRow B 5 1 s' (l' ++ [m % 128 + 128]).length (u8s (l' ++ [m % 128 + 128])) ∧ (l' ++ [m % 128 + 128]) ++ numL f' (m / 128) = l ++ numL 4 n ∧ m / 128 < 128 ^ (f' + 1)) := ⟨hown2, hl2, hf2⟩
      clear hown' hgrow hat hown hown2 hl2 hf2 hgr
      go_wp2
      go_roundw
      case rel => exact ⟨f', m / 128, l' ++ [m % 128 + 128], by go_num, by omega, by omega, HN.out.2.2, HN.out.2.1, by rw [e1]; omega, HN.out.1, hgr'⟩
      case measure => simp [intOf]; omega
    · go_wp2_with (first
        | (at_builtin; refine wpList_append_own_at _ rfl _ _ 22 rfl B 5 i0 (.int .u8 0) 1 1 Try.underlying22 hi hz0 hz1 hz2 rfl (by decide) _ _ _ rfl (hown.alloc _) ⟨wr.heap.size, 0, none⟩ 1 1 [.int .u8 m] rfl rfl (cell_one _ _ _) (by intro u hu; simp at hu; subst hu; rfl) (by unfold maxLen; omega) (by omega) (by simp; omega) ?_; intro s' w1 hown' hgrow _ hat)
        | go_in)
      have hgr' : Hid (Gr w v w1 s') := hgr.out.trans ((Gr.alloc wr _ _).trans (Gr.of hgrow hat))
      have e1 : (l' ++ [m]).length = l'.length + 1 := by simp
      have hown2 : w1.ownsRow B 5 1 s' (l ++ numL 4 n).length (u8s (l ++ numL 4 n)) := by rw [← HL.out, numL_small f m (by omega), e1, u8s_app]; exact hown'
      clear hown' hgrow hat hown hgr
      go_wp2
      go_ret
      exact ⟨_, rfl, hown2, hgr'.out⟩
theorem text_small {s : ByteArray} (hs : s.size ≤ 1000) : textL s = numL 4 (s.size : Int) ++ sL s := by
  unfold textL
  rw [show (s.size : Int) % 4294967296 = (s.size : Int) by omega]
attribute [local go_sem ↓] appN_seal
set_option maxHeartbeats 1000000 in
theorem rtxt_any (B : Nat) (v : Value) (l : List Int) (s : ByteArray) (w : World) (h : Ow w B v l) (hB : B ≤ w.heap.size) (hs : s.size ≤ 1000) (hm : l.length ≤ 1000000000) :
    Calls Try.prog 85 #[v, .string s] w fun e w' => ∃ v', e = .returned v' ∧ Ow w' B v' (l ++ textL s) ∧ Gr w v w' v' := by
  have HO : Hid (Ow w B v l) := h
  have hn := numL_len 4 (s.size : Int)
  have AP : Hid (∀ X v1, Ow X B v1 (l ++ numL 4 (s.size : Int)) → Gr w v X v1 → ∃ (v' : Value) (Y : World), (appN #[22, 9] 22 #[v1, .string s]).run Try.prog X = .ok v' Y ∧ Hid (Ow Y B v' (l ++ textL s) ∧ Gr w v Y v')) := fun X v1 hX hg => by
    obtain ⟨v', Y, h1, h2, h3⟩ := app_text s hX (by have := hg.1.size; omega) (by simp; omega)
    exact ⟨v', Y, h1, by rw [text_small hs, ← List.append_assoc]; exact h2, hg.trans h3⟩
  clear h
  go_enter Try.func85, Try.ntmps85
  go_wp2_with (first
    | (go_at_call 87; refine (rput_any B v l (s.size : Int) _ HO.out hB (by omega) (by omega) (by omega)).mono ?_; rintro e w1 ⟨v1, rfl, hown1, hb1⟩; obtain ⟨v2, w2, hrun, HR⟩ := AP.out w1 v1 hown1 hb1; clear hown1 hb1)
    | go_in)
  go_ret
  exact ⟨_, rfl, HR.out.1, HR.out.2⟩
theorem Gr.of_below {w w' : World} {v : Value} (h : Below w.heap.size w w') : Gr w v w' v := ⟨⟨h.os, h.tape, h.output, h.size, fun k hk _ => h.block k hk⟩, fun _ e => .inl e⟩
theorem ow_below {w w' : World} {B : Nat} {v : Value} {l : List Int} (h : Ow w B v l) (hb : Below w.heap.size w w') : Ow w' B v l :=
  ⟨h.1, h.2.imp id fun ⟨g, cap, cur, e1, e2, e3, r⟩ => ⟨g, cap, cur, e1, e2, (hb.block g (Array.getElem?_eq_some_iff.1 e3).1).trans e3, r⟩⟩
theorem wd_u8s (v : Int) : bytesOf v 4 = u8s (wdL v) := rfl
/-- A word's bytes put behind a row of bytes. -/
theorem app_wd {X : World} {B : Nat} {v : Value} {l : List Int} (x : Int) (g c : Nat) (h : Ow X B v l) (hB : B ≤ X.heap.size) (hn : l.length ≤ 1000000000) (hc : ∀ j u, (u8s (wdL x))[j]? = some u → X.cell? ((⟨g, 0, none⟩ : Addr).add j) = some u) :
    ∃ (v' : Value) (Y : World), (appN #[22, 22] 22 #[v, .slice (some ⟨g, 0, none⟩) 4 c]).run Try.prog X = .ok v' Y ∧ Ow Y B v' (l ++ wdL x) ∧ Gr X v Y v' := by
  obtain ⟨i0, hi0, hz0, hz1, hz2⟩ := info_parts info5
  obtain ⟨v', Y, h1, h2, h3, _, h4⟩ := run_append_own_at (P := Try.prog) (w := X) B 22 22 5 i0 _ 1 1 Try.underlying22 hi0 hz0 hz1 hz2 rfl (by decide) v l.length (u8s l) h ⟨g, 0, none⟩ 4 c (u8s (wdL x)) rfl hc (u8s_one _) (by unfold maxLen; omega) (by omega) hB
  exact ⟨v', Y, h1, by unfold Ow; rw [List.length_append, u8s_app]; exact h2, Gr.of h3 h4⟩
set_option maxHeartbeats 1000000 in
theorem rwrd_any (B : Nat) (v : Value) (l : List Int) (x : Int) (w : World) (h : Ow w B v l) (hB : B ≤ w.heap.size) (x0 : 0 ≤ x) (x1 : x ≤ 4294967295) (hm : l.length ≤ 1000000000) :
    Calls Try.prog 86 #[v, .int .u32 x] w fun e w' => ∃ v', e = .returned v' ∧ Ow w' B v' (l ++ wdL x) ∧ Gr w v w' v' := by
  have WD : Hid (Calls Try.prog 95 #[.int .u32 x] w fun e w' => ∃ g c v' Y, e = .returned (.slice (some ⟨g, 0, none⟩) 4 c) ∧ (appN #[22, 22] 22 #[v, .slice (some ⟨g, 0, none⟩) 4 c]).run Try.prog w' = .ok v' Y ∧ Hid (Ow Y B v' (l ++ wdL x) ∧ Gr w v Y v')) := hid_of ((rword_any x w x0 x1).mono fun e w' hh => by
    obtain ⟨y, h1, h2, h3⟩ := hh
    have h4 : Ow w' w.heap.size y (wdL x) := h2
    obtain ⟨g, c, rfl, _, _⟩ := ow_at h4 (by simp [wdL])
    obtain ⟨v', Y, r1, r2, r3⟩ := app_wd x g c (ow_below h h3) (by have := h3.size; omega) hm (fun j u hj => World.ownsRow.cells h2 (g := g) rfl j u (by rw [wd_u8s]; exact hj))
    exact ⟨g, c, v', Y, h1, r1, r2, (Gr.of_below h3).trans r3⟩)
  clear h
  go_enter Try.func86, Try.ntmps86
  go_wp2_with (first
    | (go_at_call 95; refine WD.out.mono ?_; rintro e w1 ⟨g, c, v2, w2, rfl, hrun, HR⟩)
    | go_in)
  go_ret
  exact ⟨_, rfl, HR.out.1, HR.out.2⟩
/-- Bytes behind a full row, whosever it is: a new row. -/
theorem app_full {X : World} {B : Nat} (hB : B ≤ X.heap.size) (b : Addr) (l : List Int) (hc : ∀ j u, (u8s l)[j]? = some u → X.cell? (b.add j) = some u) (a : Addr) (m c : Nat) (nl : List Int) (hnl : nl.length = m) (hn : ∀ j u, (u8s nl)[j]? = some u → X.cell? (a.add j) = some u) (hm : 0 < m) (hz : l.length + m ≤ 140737488355328) :
    ∃ (v' : Value) (Y : World), (appN #[22, 22] 22 #[.slice (some b) l.length l.length, .slice (some a) m c]).run Try.prog X = .ok v' Y ∧ Ow Y B v' (l ++ nl) ∧ Below X.heap.size X Y := by
  obtain ⟨i0, hi0, hz0, hz1, hz2⟩ := info_parts info5
  have hr := run_append_grow (P := Try.prog) X 22 22 5 i0 _ Try.underlying22 hi0 hz0 b l.length l.length (u8s l) (by rw [u8s_len, hz1, Nat.mul_one]) hc a m c (u8s nl) (by rw [u8s_len, hz1, hnl, Nat.mul_one]) hn (by omega) (by omega) (growslice_fits (by omega) (by rw [hz2]; omega))
  have hge := grownCap_ge X (l.length + m) l.length 5
  have hcm := grownCap_le_maxLen X (l.length + m) l.length 5 (by unfold maxLen; omega)
  refine ⟨_, _, hr, ⟨?_, .inr ⟨X.heap.size, _, _, ?_, hB, heap_alloc_new X.drew _, ?_, hcm, ?_, ?_⟩⟩, ⟨rfl, rfl, rfl, by simp, fun k hk => heap_alloc_old X.drew _ hk⟩⟩
  · rw [u8s_len, Nat.mul_one]
  · rw [List.length_append, hnl]
  · rw [List.length_append, hnl]; exact hge
  · simp only [Array.size_append, List.size_toArray, size_zeroCells, u8s_len, hnl]
    have : (Value.int .u8 0).cells.size = 1 := rfl
    rw [this]; omega
  · simp only [Array.toList_append, List.append_assoc]
    rw [← List.append_assoc, ← u8s_app, Nat.mul_one, ← u8s_len (l ++ nl)]
    exact List.take_left
/-- A constant text's row, as it is made: it bears the mark of such rows. -/
def mkW (X : World) : World := X.alloc (.cells #[.int .u8 67, .int .u8 82, .int .u8 79, .int .u8 49] 5 (4, 5))
theorem mk_conv (X : World) : (convert 22 22 (.slice (some ⟨X.heap.size, 0, none⟩) 4 4)).run Try.prog (X.alloc (.cells #[.int .u8 67, .int .u8 82, .int .u8 79, .int .u8 49] 5)) = .ok (.slice (some ⟨X.heap.size, 0, none⟩) 4 4) (mkW X) := Lib.run_convert_bytes_const (P := Try.prog) X 22 5 _ 4 4 Try.underlying22 Try.underlying5
theorem mk_below (X : World) : Below X.heap.size X (mkW X) := (Below.refl _ _).alloc (Nat.le_refl _) _
theorem mk_size (X : World) : (mkW X).heap.size = X.heap.size + 1 := by simp [mkW]
theorem mk_cell (X : World) : ∀ j u, (u8s markL)[j]? = some u → (mkW X).cell? ((⟨X.heap.size, 0, none⟩ : Addr).add j) = some u := by
  intro j u hj
  have hb : (mkW X).heap[X.heap.size]? = some (.cells #[.int .u8 67, .int .u8 82, .int .u8 79, .int .u8 49] 5 (4, 5)) := blk_new _ _
  have hx : ∀ k, (mkW X).cell? ⟨X.heap.size, k, none⟩ = #[Value.int .u8 67, .int .u8 82, .int .u8 79, .int .u8 49][k]? := fun k => by simp [World.cell?, hb]
  match j, hj with
  | 0, hj => exact (hx 0).trans hj
  | 1, hj => exact (hx 1).trans hj
  | 2, hj => exact (hx 2).trans hj
  | 3, hj => exact (hx 3).trans hj
set_option maxHeartbeats 1000000 in
/-- A small number behind the mark. -/
theorem rput_mark (X : World) (n : Int) (n0 : 0 ≤ n) (n1 : n < 128) : Calls Try.prog 87 #[.slice (some ⟨X.heap.size, 0, none⟩) 4 4, .int .i64 n] (mkW X) fun e w' => ∃ v', e = .returned v' ∧ Ow w' (X.heap.size + 1) v' (markL ++ numL 4 n) ∧ Below (X.heap.size + 1) (mkW X) w' := by
  have hwn : n % 4294967296 = n := by omega
  have hc := mk_cell X
  obtain ⟨v1, w1, r1, o1, b1⟩ := app_full (X := (mkW X).alloc (.cells #[.int .u8 n] 5)) (B := X.heap.size + 1) (by simp [mk_size]) ⟨X.heap.size, 0, none⟩ markL (fun j u hj => by
    have := hc j u hj
    exact Lib.cell?_alloc_marked _ this) ⟨(mkW X).heap.size, 0, none⟩ 1 1 [n] rfl (cell_one _ _ _) (by omega) (by simp [markL])
  have R : Hid (Ow w1 (X.heap.size + 1) v1 (markL ++ numL 4 n) ∧ Below (X.heap.size + 1) (mkW X) w1) := by
    refine hid_of ⟨by rw [numL_small 4 n n1]; exact o1, ?_⟩
    exact ((Below.refl (X.heap.size + 1) (mkW X)).alloc (by rw [mk_size]; exact Nat.le_refl _) _).trans (b1.mono (by simp [mk_size]))
  have hf : decide ((128 : Int) ≤ n) = false := decide_eq_false (by omega)
  have hf2 : ¬ (128 : Int) ≤ n := by omega
  have hn8 : n % 256 = n := by omega
  rw [mk_size, show markL.length = 4 from rfl] at r1
  have hsz := mk_size X
  generalize mkW X = M at *
  clear hc o1 b1
  go_enter Try.func87, Try.ntmps87
  go_wp2
  go_loopw [0, 5] (fun s x wr => s = .slice (some ⟨X.heap.size, 0, none⟩) 4 4 ∧ x = .int .u32 n ∧ wr = M) (fun _ x _ => (intOf x).toNat)
  case atStart => exact ⟨rfl, by go_num, rfl⟩
  case round =>
    obtain ⟨rfl, rfl, hww⟩ := hrel
    obtain rfl := hww.symm
    go_wp2
    go_ret
    exact ⟨_, rfl, R.out⟩
set_option maxHeartbeats 1000000 in
theorem rtxt_mark (X : World) (s : ByteArray) (hs : s.size ≤ 100) : Calls Try.prog 85 #[.slice (some ⟨X.heap.size, 0, none⟩) 4 4, .string s] (mkW X) fun e w' => ∃ v', e = .returned v' ∧ Ow w' (X.heap.size + 1) v' (markL ++ textL s) ∧ Below (X.heap.size + 1) (mkW X) w' := by
  have hsz := mk_size X
  have AP : Hid (∀ Y v1, Ow Y (X.heap.size + 1) v1 (markL ++ numL 4 (s.size : Int)) → Below (X.heap.size + 1) (mkW X) Y → ∃ (v' : Value) (Z : World), (appN #[22, 9] 22 #[v1, .string s]).run Try.prog Y = .ok v' Z ∧ Hid (Ow Z (X.heap.size + 1) v' (markL ++ textL s) ∧ Below (X.heap.size + 1) (mkW X) Z)) := fun Y v1 hY hb => by
    have hbs := hb.size
    have hn := numL_len 4 (s.size : Int)
    have hml : markL.length = 4 := rfl
    obtain ⟨v', Z, h1, h2, h3⟩ := app_text s hY (by omega) (by rw [List.length_append]; omega)
    exact ⟨v', Z, h1, by rw [text_small (by omega), ← List.append_assoc]; exact h2, hb.trans (h3.below (own_lo hY) (by omega))⟩
  have PM := hid_of (rput_mark X (s.size : Int) (by omega) (by omega))
  generalize mkW X = M at *
  go_enter Try.func85, Try.ntmps85
  go_wp2_with (first
    | (go_at_call 87; refine PM.out.mono ?_; rintro e w1 ⟨v1, rfl, hown1, hb1⟩; obtain ⟨v2, w2, hrun, HR⟩ := AP.out w1 v1 hown1 hb1; clear hown1 hb1)
    | go_in)
  go_ret
  exact ⟨_, rfl, HR.out.1, HR.out.2⟩
end Go.Proofs.Ytepgifapepaheaa

namespace Go.Proofs.Ytepgifapepaheaa
set_option linter.unusedVariables false
set_option linter.unusedSimpArgs false
open Go.ChangeShapes Go.WideShapes Go.ChangeAt Go.RowKit
attribute [local go_sem] Oc.at0 Oc.at1 Oc.at2 Oc.at3 Oc.at4 Oc.at5 Oc.at6 Oc.at7 Oc.at8 Oc.at9 Oc.at10 Oc.at11 Oc.at12
attribute [local go_sem ↓] loadO_seal

/-- The first so many of a row, as bytes. -/
def pfx {α : Type} (L : α → List Int) (l : List α) (i : Nat) : List Int := ((l.take i).map L).flatten
theorem pfx_zero {α : Type} (L : α → List Int) (l : List α) : pfx L l 0 = [] := rfl
theorem pfx_succ {α : Type} (L : α → List Int) (l : List α) (d : α) (i : Nat) (h : i < l.length) : pfx L l (i + 1) = pfx L l i ++ L (l.getD i d) := by
  unfold pfx
  rw [List.take_succ_eq_append_getElem h, List.map_append, List.flatten_append, getD_at l d i h]
  simp
theorem pfx_all {α : Type} (L : α → List Int) (l : List α) (i : Nat) (h : l.length ≤ i) : pfx L l i = (l.map L).flatten := by
  unfold pfx
  rw [List.take_of_length_le h]
theorem pfx_len {α : Type} (L : α → List Int) (l : List α) (i : Nat) : (pfx L l i).length ≤ ((l.map L).flatten).length := by
  have : (l.map L).flatten = pfx L l i ++ ((l.drop i).map L).flatten := by
    unfold pfx
    rw [← List.flatten_append, ← List.map_append, List.take_append_drop]
  rw [this, List.length_append]; omega
/-- What was written, step by step. -/
def ad0 (o : Ob) : List Int := markL ++ textL o.name
def ad1 (o : Ob) : List Int := ad0 o ++ wdL o.key
def ad2 (o : Ob) : List Int := ad1 o ++ numL 4 (o.imps.length : Int)
def ad3 (o : Ob) : List Int := ad2 o ++ (o.imps.map impL).flatten
def ad4 (o : Ob) : List Int := ad3 o ++ numL 4 (o.code.length : Int)
def ad5 (o : Ob) : List Int := ad4 o ++ (o.code.map wdL).flatten
def ad6 (o : Ob) : List Int := ad5 o ++ numL 4 (o.procs.length : Int)
def ad7 (o : Ob) : List Int := ad6 o ++ ((prcsOf o).map prcL).flatten
def ad8 (o : Ob) : List Int := ad7 o ++ numL 4 o.ini
def ad9 (o : Ob) : List Int := ad8 o ++ numL 4 (o.vars.length : Int)
def ad10 (o : Ob) : List Int := ad9 o ++ (o.vars.map (numL 4)).flatten
def ad11 (o : Ob) : List Int := ad10 o ++ numL 4 (o.shown.length : Int)
def ad12 (o : Ob) : List Int := ad11 o ++ (o.shown.map (numL 4)).flatten
def ad13 (o : Ob) : List Int := ad12 o ++ numL 4 (o.strs.length : Int)
def ad14 (o : Ob) : List Int := ad13 o ++ (o.strs.map textL).flatten
def ad15 (o : Ob) : List Int := ad14 o ++ numL 4 (o.descs.length : Int)
def ad16 (o : Ob) : List Int := ad15 o ++ (o.descs.map dscL).flatten
def ad17 (o : Ob) : List Int := ad16 o ++ numL 4 (o.fixes.length : Int)
def ad18 (o : Ob) : List Int := ad17 o ++ (o.fixes.map fixL).flatten
theorem prcs_len (o : Ob) : (prcsOf o).length = o.procs.length := by simp [prcsOf]
theorem ad_all (o : Ob) : ad18 o = markL ++ bodyL o := by
  unfold ad18 ad17 ad16 ad15 ad14 ad13 ad12 ad11 ad10 ad9 ad8 ad7 ad6 ad5 ad4 ad3 ad2 ad1 ad0 bodyL rowL
  rw [prcs_len]
  simp only [List.append_assoc]
theorem ad_len {o : Ob} {M : Nat} (h : (markL ++ bodyL o).length ≤ M) : (ad0 o).length ≤ M ∧ (ad1 o).length ≤ M ∧ (ad2 o).length ≤ M ∧ (ad3 o).length ≤ M ∧ (ad4 o).length ≤ M ∧ (ad5 o).length ≤ M ∧ (ad6 o).length ≤ M ∧ (ad7 o).length ≤ M ∧ (ad8 o).length ≤ M ∧ (ad9 o).length ≤ M ∧ (ad10 o).length ≤ M ∧ (ad11 o).length ≤ M ∧ (ad12 o).length ≤ M ∧ (ad13 o).length ≤ M ∧ (ad14 o).length ≤ M ∧ (ad15 o).length ≤ M ∧ (ad16 o).length ≤ M ∧ (ad17 o).length ≤ M := by
  rw [← ad_all] at h
  have a18 : (ad18 o).length = (ad17 o).length + _ := List.length_append
  have a17 : (ad17 o).length = (ad16 o).length + _ := List.length_append
  have a16 : (ad16 o).length = (ad15 o).length + _ := List.length_append
  have a15 : (ad15 o).length = (ad14 o).length + _ := List.length_append
  have a14 : (ad14 o).length = (ad13 o).length + _ := List.length_append
  have a13 : (ad13 o).length = (ad12 o).length + _ := List.length_append
  have a12 : (ad12 o).length = (ad11 o).length + _ := List.length_append
  have a11 : (ad11 o).length = (ad10 o).length + _ := List.length_append
  have a10 : (ad10 o).length = (ad9 o).length + _ := List.length_append
  have a9 : (ad9 o).length = (ad8 o).length + _ := List.length_append
  have a8 : (ad8 o).length = (ad7 o).length + _ := List.length_append
  have a7 : (ad7 o).length = (ad6 o).length + _ := List.length_append
  have a6 : (ad6 o).length = (ad5 o).length + _ := List.length_append
  have a5 : (ad5 o).length = (ad4 o).length + _ := List.length_append
  have a4 : (ad4 o).length = (ad3 o).length + _ := List.length_append
  have a3 : (ad3 o).length = (ad2 o).length + _ := List.length_append
  have a2 : (ad2 o).length = (ad1 o).length + _ := List.length_append
  have a1 : (ad1 o).length = (ad0 o).length + _ := List.length_append
  omega
/-- While the bytes grow. -/
structure BB (w X : World) (c : Oc) (v : Value) (l : List Int) : Prop where
  be : Below (w.heap.size + 1) (w.alloc (.cells c.cells 33)) X
  ow : Ow X (w.heap.size + 1) v l
theorem BB.bel {w X : World} {c : Oc} {v : Value} {l : List Int} (h : BB w X c v l) : Below w.heap.size w X := ((Below.refl w.heap.size w).alloc (Nat.le_refl _) _).trans (h.be.mono (by omega))
theorem BB.size {w X : World} {c : Oc} {v : Value} {l : List Int} (h : BB w X c v l) : w.heap.size + 1 ≤ X.heap.size := by have := h.be.size; simpa using this
theorem BB.bx {w X : World} {c : Oc} {v : Value} {l : List Int} (h : BB w X c v l) : OAt X w.heap.size c := box_at h.be
theorem BB.to {w X Y : World} {c : Oc} {v v' : Value} {l l' : List Int} (h : BB w X c v l) (ho : Ow Y (w.heap.size + 1) v' l') (hg : Gr X v Y v') : BB w Y c v' l' := ⟨h.be.trans (hg.below (own_lo h.ow) h.size), ho⟩
theorem BB.put {w X : World} {c : Oc} {v : Value} {l : List Int} (h : BB w X c v l) (n : Int) (n0 : 0 ≤ n) (n1 : n ≤ 4294967295) (hl : l.length ≤ 900000000) : Calls Try.prog 87 #[v, .int .i64 n] X fun e Y => ∃ v', e = .returned v' ∧ BB w Y c v' (l ++ numL 4 n) ∧ Gr X v Y v' :=
  (rput_any _ v l n X h.ow h.size n0 n1 (by omega)).mono fun e Y hh => by
    obtain ⟨v', h1, h2, h3⟩ := hh
    exact ⟨v', h1, h.to h2 h3, h3⟩
theorem BB.text {w X : World} {c : Oc} {v : Value} {l : List Int} (h : BB w X c v l) (s : ByteArray) (hs : s.size ≤ 1000) (hl : l.length ≤ 900000000) : Calls Try.prog 85 #[v, .string s] X fun e Y => ∃ v', e = .returned v' ∧ BB w Y c v' (l ++ textL s) ∧ Gr X v Y v' :=
  (rtxt_any _ v l s X h.ow h.size hs (by omega)).mono fun e Y hh => by
    obtain ⟨v', h1, h2, h3⟩ := hh
    exact ⟨v', h1, h.to h2 h3, h3⟩
theorem BB.word {w X : World} {c : Oc} {v : Value} {l : List Int} (h : BB w X c v l) (x : Int) (x0 : 0 ≤ x) (x1 : x ≤ 4294967295) (hl : l.length ≤ 900000000) : Calls Try.prog 86 #[v, .int .u32 x] X fun e Y => ∃ v', e = .returned v' ∧ BB w Y c v' (l ++ wdL x) ∧ Gr X v Y v' :=
  (rwrd_any _ v l x X h.ow h.size x0 x1 (by omega)).mono fun e Y hh => by
    obtain ⟨v', h1, h2, h3⟩ := hh
    exact ⟨v', h1, h.to h2 h3, h3⟩
/-- A box that is none of the bytes'. -/
def Box (X : World) (v : Value) (D : Nat) (cs : Array Value) (t : TypeId) : Prop := X.heap[D]? = some (.cells cs t (0, 0)) ∧ v.ownBlock ≠ some D
theorem Box.gr {X Y : World} {v v' : Value} {D : Nat} {cs : Array Value} {t : TypeId} (h : Box X v D cs t) (g : Gr X v Y v') : Box Y v' D cs t := by
  have hl := (Array.getElem?_eq_some_iff.1 h.1).1
  refine ⟨(g.1.block D hl fun e => h.2 e.symm).trans h.1, fun e => ?_⟩
  rcases g.2 D e with e2 | e2
  · exact h.2 e2
  · omega
theorem Box.new {X : World} {v : Value} {B : Nat} {l : List Int} (h : Ow X B v l) (cs : Array Value) (t : TypeId) : Box (X.alloc (.cells cs t)) v X.heap.size cs t := ⟨blk_new _ _, fun e => by have := (World.ownsRow.lt h _ e).2; omega⟩
theorem cell_lt {X : World} {b j : Nat} {u : Value} (h : X.cell? ⟨b, j, none⟩ = some u) : b < X.heap.size := by
  rcases Nat.lt_or_ge b X.heap.size with q | q
  · exact q
  · have : X.heap[b]? = none := Array.getElem?_eq_none q
    simp [World.cell?, this] at h
theorem ow_low {X : World} {B B' : Nat} {v : Value} {l : List Int} (h : Ow X B v l) (hb : B' ≤ B) : Ow X B' v l := ⟨h.1, h.2.imp id fun ⟨g, cap, cur, e1, e2, r⟩ => ⟨g, cap, cur, e1, Nat.le_trans hb e2, r⟩⟩
theorem BB.alloc {w X : World} {c : Oc} {v : Value} {l : List Int} (h : BB w X c v l) (x : Obj) : BB w (X.alloc x) c v l := ⟨h.be.alloc h.size _, World.ownsRow.alloc h.ow _⟩
theorem app_u8g {X : World} {B : Nat} {v : Value} {l : List Int} (x : Int) (h : Ow X B v l) (hB : B ≤ X.heap.size) (hn : l.length ≤ 1000000000) :
    ∃ (v' : Value) (Y : World), (appN #[22, 22] 22 #[v, .slice (some ⟨X.heap.size, 0, none⟩) 1 1]).run Try.prog (X.alloc (.cells #[.int .u8 x] 5)) = .ok v' Y ∧ Ow Y B v' (l ++ [x]) ∧ Gr X v Y v' := by
  obtain ⟨i0, hi0, hz0, hz1, hz2⟩ := info_parts info5
  have hbl : (X.alloc (.cells #[.int .u8 x] 5)).ownsRow B 5 1 v l.length (u8s l) := World.ownsRow.alloc h _
  obtain ⟨v', Y, h1, h2, h3, _, h4⟩ := run_append_own_at (P := Try.prog) (w := X.alloc (.cells #[.int .u8 x] 5)) B 22 22 5 i0 _ 1 1 Try.underlying22 hi0 hz0 hz1 hz2 rfl (by decide) v l.length (u8s l) hbl ⟨X.heap.size, 0, none⟩ 1 1 [.int .u8 x] rfl (cell_one _ _ _) (by intro u hu; simp at hu; subst hu; rfl) (by unfold maxLen; omega) (by omega) (by simp; omega)
  exact ⟨v', Y, h1, by unfold Ow; rw [List.length_append, u8s_app]; exact h2, (Gr.alloc X v _).trans (Gr.of h3 h4)⟩
theorem BB.oct {w X : World} {c : Oc} {v : Value} {l : List Int} (h : BB w X c v l) (x : Int) (hl : l.length ≤ 900000000) : ∃ (v' : Value) (Y : World), (appN #[22, 22] 22 #[v, .slice (some ⟨X.heap.size, 0, none⟩) 1 1]).run Try.prog (X.alloc (.cells #[.int .u8 x] 5)) = .ok v' Y ∧ Hid (BB w Y c v' (l ++ [x]) ∧ Gr X v Y v') := by
  obtain ⟨v', Y, h1, h2, h3⟩ := app_u8g x h.ow h.size (by omega)
  exact ⟨v', Y, h1, h.to h2 h3, h3⟩
theorem BB.mark (w : World) (c : Oc) (s : ByteArray) (hs : s.size ≤ 100) : Calls Try.prog 85 #[.slice (some ⟨(w.alloc (.cells c.cells 33)).heap.size, 0, none⟩) 4 4, .string s] (mkW (w.alloc (.cells c.cells 33))) fun e Y => ∃ v', e = .returned v' ∧ BB w Y c v' (markL ++ textL s) :=
  (rtxt_mark (w.alloc (.cells c.cells 33)) s hs).mono fun e Y hh => by
    obtain ⟨v', h1, h2, h3⟩ := hh
    have hz : (w.alloc (.cells c.cells 33)).heap.size = w.heap.size + 1 := by simp
    have hm := mk_below (w.alloc (.cells c.cells 33))
    rw [hz] at h2 h3 hm
    exact ⟨v', h1, hm.trans (h3.mono (by omega)), ow_low h2 (by omega)⟩
attribute [local go_sem ↓] appN_seal
set_option maxHeartbeats 40000000 in
set_option maxRecDepth 20000 in
theorem rbytes_any (w : World) (c : Oc) (o : Ob) (h : ObR w c o) (hf : Fine o) (hw : Words o) (hl : (markL ++ bodyL o).length ≤ 900000000) (hnm : c.nm.size ≤ 100) : Calls Try.prog 75 #[.agg c.cells] w fun e w' => ∃ v, e = .returned v ∧ Ow w' w.heap.size v (objL o) ∧ Below w.heap.size w w' := by
  obtain ⟨l0, l1, l2, l3, l4, l5, l6, l7, l8, l9, l10, l11, l12, l13, l14, l15, l16, l17⟩ := ad_len hl
  have M0 := hid_of (BB.mark w c c.nm hnm)
  have kc := mk_conv (w.alloc (.cells c.cells 33))
  rw [show (w.alloc (.cells c.cells 33)).heap.size = w.heap.size + 1 by simp] at M0 kc
  have q0 : (mkW (w.alloc (.cells c.cells 33))).cell? ⟨w.heap.size, 0, none⟩ = some (.string c.nm) := blk_cell ((mk_below (w.alloc (.cells c.cells 33))).block w.heap.size (by simp) |>.trans (blk_new _ _)) 0
  have PU : Hid (∀ X v l n, BB w X c v l → 0 ≤ n → n ≤ 4294967295 → l.length ≤ 900000000 → Calls Try.prog 87 #[v, .int .i64 n] X _) := fun X v l n a b d e => a.put n b d e
  have TX : Hid (∀ X v l s, BB w X c v l → s.size ≤ 1000 → l.length ≤ 900000000 → Calls Try.prog 85 #[v, .string s] X _) := fun X v l s a b d => a.text s b d
  have WD : Hid (∀ X v l x, BB w X c v l → 0 ≤ x → x ≤ 4294967295 → l.length ≤ 900000000 → Calls Try.prog 86 #[v, .int .u32 x] X _) := fun X v l n a b d e => a.word n b d e
  have n_im : c.im.n = o.imps.length := h.im.len
  have n_co : c.co.n = o.code.length := h.co.len
  have n_pr : c.pr.n = o.procs.length := h.pr.len
  have n_va : c.va.n = o.vars.length := h.va.len
  have n_sh : c.sh.n = o.shown.length := h.sh.len
  have n_st : c.st.n = o.strs.length := h.st.len
  have n_ds : c.ds.n = o.descs.length := by obtain ⟨l, e1, e2, e3⟩ := h.ds; rw [e2.len, ← e1, List.length_map]
  have n_fx : c.fx.n = o.fixes.length := h.fx.len
  have b_im : c.im.n ≤ 65536 := by rw [n_im]; exact hf.im.1
  have b_co : c.co.n ≤ 65536 := by rw [n_co]; exact hf.co
  have b_pr : c.pr.n ≤ 65536 := by rw [n_pr]; exact hf.pr.1
  have b_va : c.va.n ≤ 65536 := by rw [n_va]; exact hf.va.1
  have b_sh : c.sh.n ≤ 65536 := by rw [n_sh]; exact hf.sh.1
  have b_st : c.st.n ≤ 65536 := by rw [n_st]; exact hf.st.1
  have b_ds : c.ds.n ≤ 65536 := by rw [n_ds]; exact hf.ds.1
  have b_fx : c.fx.n ≤ 65536 := by rw [n_fx]; exact hf.fx.1
  have V2 : Hid (∀ X v, BB w X c v (ad1 o ++ numL 4 (c.im.n : Int)) → BB w X c v (ad2 o)) := fun X v a => by rw [n_im] at a; exact a
  have C2 : Hid (∀ X v l, BB w X c v l → X.cell? ⟨w.heap.size, 2, none⟩ = some (.slice c.im.a c.im.n c.im.c)) := fun X v l a => blk_cell a.bx 2
  have V4 : Hid (∀ X v, BB w X c v (ad3 o ++ numL 4 (c.co.n : Int)) → BB w X c v (ad4 o)) := fun X v a => by rw [n_co] at a; exact a
  have C3 : Hid (∀ X v l, BB w X c v l → X.cell? ⟨w.heap.size, 3, none⟩ = some (.slice c.co.a c.co.n c.co.c)) := fun X v l a => blk_cell a.bx 3
  have V6 : Hid (∀ X v, BB w X c v (ad5 o ++ numL 4 (c.pr.n : Int)) → BB w X c v (ad6 o)) := fun X v a => by rw [n_pr] at a; exact a
  have C4 : Hid (∀ X v l, BB w X c v l → X.cell? ⟨w.heap.size, 4, none⟩ = some (.slice c.pr.a c.pr.n c.pr.c)) := fun X v l a => blk_cell a.bx 4
  have V9 : Hid (∀ X v, BB w X c v (ad8 o ++ numL 4 (c.va.n : Int)) → BB w X c v (ad9 o)) := fun X v a => by rw [n_va] at a; exact a
  have C8 : Hid (∀ X v l, BB w X c v l → X.cell? ⟨w.heap.size, 8, none⟩ = some (.slice c.va.a c.va.n c.va.c)) := fun X v l a => blk_cell a.bx 8
  have V11 : Hid (∀ X v, BB w X c v (ad10 o ++ numL 4 (c.sh.n : Int)) → BB w X c v (ad11 o)) := fun X v a => by rw [n_sh] at a; exact a
  have C9 : Hid (∀ X v l, BB w X c v l → X.cell? ⟨w.heap.size, 9, none⟩ = some (.slice c.sh.a c.sh.n c.sh.c)) := fun X v l a => blk_cell a.bx 9
  have V13 : Hid (∀ X v, BB w X c v (ad12 o ++ numL 4 (c.st.n : Int)) → BB w X c v (ad13 o)) := fun X v a => by rw [n_st] at a; exact a
  have C10 : Hid (∀ X v l, BB w X c v l → X.cell? ⟨w.heap.size, 10, none⟩ = some (.slice c.st.a c.st.n c.st.c)) := fun X v l a => blk_cell a.bx 10
  have V15 : Hid (∀ X v, BB w X c v (ad14 o ++ numL 4 (c.ds.n : Int)) → BB w X c v (ad15 o)) := fun X v a => by rw [n_ds] at a; exact a
  have C11 : Hid (∀ X v l, BB w X c v l → X.cell? ⟨w.heap.size, 11, none⟩ = some (.slice c.ds.a c.ds.n c.ds.c)) := fun X v l a => blk_cell a.bx 11
  have V17 : Hid (∀ X v, BB w X c v (ad16 o ++ numL 4 (c.fx.n : Int)) → BB w X c v (ad17 o)) := fun X v a => by rw [n_fx] at a; exact a
  have C12 : Hid (∀ X v l, BB w X c v l → X.cell? ⟨w.heap.size, 12, none⟩ = some (.slice c.fx.a c.fx.n c.fx.c)) := fun X v l a => blk_cell a.bx 12
  have C5 : Hid (∀ X v l, BB w X c v l → X.cell? ⟨w.heap.size, 5, none⟩ = some (.slice c.na.a c.na.n c.na.c)) := fun X v l a => blk_cell a.bx 5
  have C6 : Hid (∀ X v l, BB w X c v l → X.cell? ⟨w.heap.size, 6, none⟩ = some (.slice c.ex.a c.ex.n c.ex.c)) := fun X v l a => blk_cell a.bx 6
  have n_na : c.na.n = o.procs.length := h.na.len.trans hf.na.1
  have n_ex : c.ex.n = o.procs.length := h.ex.len.trans hf.ex
  have C0 : Hid (∀ X v l, BB w X c v l → X.cell? ⟨w.heap.size, 0, none⟩ = some (.string c.nm)) := fun X v l a => blk_cell a.bx 0
  have C1 : Hid (∀ X v l, BB w X c v l → X.cell? ⟨w.heap.size, 1, none⟩ = some (.int .u32 c.key)) := fun X v l a => blk_cell a.bx 1
  have C7 : Hid (∀ X v l, BB w X c v l → X.cell? ⟨w.heap.size, 7, none⟩ = some (.int .i64 c.ini)) := fun X v l a => blk_cell a.bx 7
  have sn : c.nm.size ≤ 1000 := by rw [h.nm]; exact hf.nm
  have k0 : 0 ≤ c.key ∧ c.key ≤ 4294967295 := by rw [h.key]; have := hw.key; unfold U32 at this; omega
  have i0 : 0 ≤ c.ini ∧ c.ini ≤ 4294967295 := by rw [h.ini]; exact hf.ini
  have V0 : Hid (∀ X v, BB w X c v (markL ++ textL c.nm) → BB w X c v (ad0 o)) := fun X v a => by rw [h.nm] at a; exact a
  have V1 : Hid (∀ X v, BB w X c v (ad0 o ++ wdL c.key) → BB w X c v (ad1 o)) := fun X v a => by rw [h.key] at a; exact a
  have V8 : Hid (∀ X v, BB w X c v (ad7 o ++ numL 4 c.ini) → BB w X c v (ad8 o)) := fun X v a => by rw [h.ini] at a; exact a
  have HR : Hid (ObR w c o) := h
  have HF : Hid (Fine o) := hf
  have HW : Hid (Words o) := hw
  have FIN : Hid (∀ X v, BB w X c v (ad18 o) → Calls Try.prog 15 #[v] X fun e Y => e = .returned (.int .u32 (fnv (fun i => (markL ++ bodyL o).getD i 0) (markL ++ bodyL o).length)) ∧ Y = X) := fun X v a => by
    have ho := a.ow
    rw [ad_all] at ho
    have hby : AllB (markL ++ bodyL o) := AllB.app (by unfold markL; intro x hx; simp only [List.mem_cons, List.not_mem_nil, or_false] at hx; omega) (body_by hf)
    obtain ⟨a1, n1, c1, rfl⟩ := own_slice ho
    obtain ⟨s1, s2, _⟩ := ow_src ho hby (by omega)
    have := rsum_any a1 n1 c1 _ X s1.rd
    rw [s2] at this ⊢
    exact this
  have WE : Hid (∀ X v x, BB w X c v (ad18 o) → x = fnv (fun i => (markL ++ bodyL o).getD i 0) (markL ++ bodyL o).length → Calls Try.prog 86 #[v, .int .u32 x] X fun e Y => ∃ v', e = .returned v' ∧ Hid (Ow Y w.heap.size v' (objL o) ∧ Below w.heap.size w Y)) := fun X v x a hx => by
    have hb := fnv_bd (fun i => (markL ++ bodyL o).getD i 0) (markL ++ bodyL o).length
    rw [← hx] at hb
    refine (a.word x hb.1 hb.2 (by rw [ad_all]; exact hl)).mono fun e Y hh => ?_
    obtain ⟨v', h1, h2, h3⟩ := hh
    have h4 := h2.ow
    rw [ad_all, hx] at h4
    exact ⟨v', h1, ow_low h4 (by omega), h2.bel⟩
  have ALL : (ad18 o).length ≤ 900000000 := by rw [ad_all]; exact hl
  generalize fnv (fun i => (markL ++ bodyL o).getD i 0) (markL ++ bodyL o).length = sm at FIN WE
  clear h hf hw hl
  have N_im := hid_of n_im
  clear n_im
  have N_co := hid_of n_co
  clear n_co
  have N_pr := hid_of n_pr
  clear n_pr
  have N_va := hid_of n_va
  clear n_va
  have N_sh := hid_of n_sh
  clear n_sh
  have N_st := hid_of n_st
  clear n_st
  have N_ds := hid_of n_ds
  clear n_ds
  have N_fx := hid_of n_fx
  clear n_fx
  have N_na := hid_of n_na
  clear n_na
  have N_ex := hid_of n_ex
  clear n_ex
  go_enter Try.func75, Try.ntmps75
  go_wp2_with (first
    | (have hz := Z1; clear hz; go_at_call 87; refine (PU.out _ _ _ _ Z1.out (by omega) (by omega) l1).mono ?_; rintro e w3 ⟨v3, rfl, h3, _⟩; have Z2 := hid_of (V2.out _ _ h3); clear h3)
    | (have hz := Z0; clear hz; go_at_call 86; refine (WD.out _ _ _ _ Z0.out k0.1 k0.2 l0).mono ?_; rintro e w2 ⟨v2, rfl, h2, _⟩; have Z1 := hid_of (V1.out _ _ h2); clear h2; have q2 := C2.out _ _ _ Z1.out)
    | (go_at_call 85; refine M0.out.mono ?_; rintro e w1 ⟨v1, rfl, h1⟩; have Z0 := hid_of (V0.out _ _ h1); clear h1; have q1 := C1.out _ _ _ Z0.out)
    )
  clear Z0 Z1 q0 q1 q2 M0 C0 C1 V0 V1 V2 kc
  go_loopg [3, 4] c.im.n (fun gf s3 s4 wx => ∃ i : Nat, s4 = .int .i64 (i : Int) ∧ i + gf = c.im.n ∧ Hid (BB w wx c s3 (ad2 o ++ pfx impL o.imps i)))
  case atStart => exact ⟨0, rfl, by omega, by rw [pfx_zero, List.append_nil]; exact Z2.out⟩
  case round =>
    clear Z2
    obtain ⟨i, rfl, hi, HB⟩ := hrel
    have r2 := C2.out _ _ _ HB.out
    by_cases hlt : i < c.im.n
    · obtain ⟨g', rfl⟩ : ∃ g', gk = g' + 1 := ⟨gk - 1, by omega⟩
      have d1 : decide ((i : Int) < (c.im.n : Int)) = true := decide_eq_true (by omega)
      have j0 : (0 : Int) ≤ (i : Int) := by omega
      have j1 : (i : Int) < (c.im.n : Int) := by omega
      have HI : Hid (i < o.imps.length) := hid_of (by rw [← N_im.out]; exact hlt)
      have lz : (ad2 o ++ pfx impL o.imps (i + 1)).length ≤ 900000000 := by have := pfx_len impL o.imps (i + 1); have e : (ad3 o).length = (ad2 o).length + _ := List.length_append; rw [List.length_append]; omega
      rw [pfx_succ impL o.imps (⟨#[]⟩, 0) i (by exact HI.out), ← List.append_assoc] at lz
      have HZ : Hid (∀ X v, BB w X c v ((ad2 o ++ pfx impL o.imps i) ++ impL (o.imps.getD i (⟨#[]⟩, 0))) → BB w X c v (ad2 o ++ pfx impL o.imps (i + 1))) := fun X v a => by rw [pfx_succ impL o.imps (⟨#[]⟩, 0) i (by exact HI.out), ← List.append_assoc]; exact a
      generalize ad2 o ++ pfx impL o.imps i = P at HB lz HZ
      obtain ⟨b, off, ha, hc⟩ := elk HR.out.im (fun _ => rfl) (⟨#[]⟩, 0) i HI.out
      have xm : o.imps.getD i (⟨#[]⟩, 0) ∈ o.imps := by rw [getD_at _ _ i HI.out]; exact List.getElem_mem HI.out
      have x1 := HF.out.im.2 _ xm
      have x2 : U32 _ := HW.out.im _ xm
      clear xm
      generalize o.imps.getD i (⟨#[]⟩, 0) = x at *
      obtain ⟨x0, y0⟩ := x
      unfold U32 at x2
      simp only at x1 x2
      have CE : Hid (∀ X v l, BB w X c v l → X.cell? ⟨w.heap.size, 2, none⟩ = some (.slice (some ⟨b, off, none⟩) c.im.n c.im.c) ∧ X.cell? ⟨b, off + i * 2, none⟩ = some (.string x0) ∧ X.cell? ⟨b, off + i * 2 + 1, none⟩ = some (.int .u32 y0)) := fun X v l a => ⟨by rw [C2.out _ _ _ a, ha], hc X a.bel 0 (by omega), hc X a.bel 1 (by omega)⟩
      have lz1 : P.length + ((textL x0).length + (wdL y0).length) ≤ 900000000 := by have := lz; rw [List.length_append, impL, List.length_append] at this; exact this
      obtain ⟨e1, e2, e3⟩ := CE.out _ _ _ HB.out
      clear r2 lz ha hc
      go_wp2_with (first
        | (have hz := H1; clear hz; go_at_call 86; refine (WD.out _ _ _ _ H1.out x2.1 x2.2 (by rw [List.length_append]; omega)).mono ?_; rintro e w5 ⟨v5, rfl, h5, _⟩; have HE := hid_of h5; clear h5)
        | (go_at_call 85; refine (TX.out _ _ _ _ HB.out x1 (by omega)).mono ?_; rintro e w4 ⟨v4, rfl, h4, _⟩; have H1 := hid_of h4; obtain ⟨f1, f2, f3⟩ := CE.out _ _ _ h4; clear h4))
      have HE := hid_of (show BB w _ c _ (P ++ impL (x0, y0)) by unfold impL; rw [← List.append_assoc]; exact HE.out)
      go_roundg g'
      case measure => omega
      case rel => exact ⟨i + 1, by simp, by omega, HZ.out _ _ HE.out⟩
    · have d1 : decide ((i : Int) < (c.im.n : Int)) = false := decide_eq_false (by omega)
      have Z3 := hid_of (And.intro HB.out trivial)
      rw [pfx_all _ _ i (by have := N_im.out; omega)] at Z3
      have Z3 := hid_of (show BB w _ c _ (ad3 o) from Z3.out.1)
      clear HB
      have q3 := C3.out _ _ _ Z3.out
      go_wp2_with (go_at_call 87; refine (PU.out _ _ _ _ Z3.out (by omega) (by omega) l3).mono ?_; rintro e w3 ⟨v3, rfl, h3, _⟩; have Z4 := hid_of (V4.out _ _ h3); clear h3)
      clear Z3 V4 q3
      go_loopg [3, 5] c.co.n (fun gf s3 s4 wx => ∃ i : Nat, s4 = .int .i64 (i : Int) ∧ i + gf = c.co.n ∧ Hid (BB w wx c s3 (ad4 o ++ pfx wdL o.code i)))
      case atStart => exact ⟨0, rfl, by omega, by rw [pfx_zero, List.append_nil]; exact Z4.out⟩
      case round =>
        clear Z4
        obtain ⟨i, rfl, hi, HB⟩ := hrel
        have r3 := C3.out _ _ _ HB.out
        by_cases hlt : i < c.co.n
        · obtain ⟨g', rfl⟩ : ∃ g', gk = g' + 1 := ⟨gk - 1, by omega⟩
          have d1 : decide ((i : Int) < (c.co.n : Int)) = true := decide_eq_true (by omega)
          have j0 : (0 : Int) ≤ (i : Int) := by omega
          have j1 : (i : Int) < (c.co.n : Int) := by omega
          have HI : Hid (i < o.code.length) := hid_of (by rw [← N_co.out]; exact hlt)
          have lz : (ad4 o ++ pfx wdL o.code (i + 1)).length ≤ 900000000 := by have := pfx_len wdL o.code (i + 1); have e : (ad5 o).length = (ad4 o).length + _ := List.length_append; rw [List.length_append]; omega
          rw [pfx_succ wdL o.code 0 i (by exact HI.out), ← List.append_assoc] at lz
          have HZ : Hid (∀ X v, BB w X c v ((ad4 o ++ pfx wdL o.code i) ++ wdL (o.code.getD i 0)) → BB w X c v (ad4 o ++ pfx wdL o.code (i + 1))) := fun X v a => by rw [pfx_succ wdL o.code 0 i (by exact HI.out), ← List.append_assoc]; exact a
          generalize ad4 o ++ pfx wdL o.code i = P at HB lz HZ
          obtain ⟨b, off, ha, hc⟩ := el1 HR.out.co 0 i HI.out
          have xm : o.code.getD i 0 ∈ o.code := by rw [getD_at _ _ i HI.out]; exact List.getElem_mem HI.out
          have x1 := (HW.out.co _ xm : U32 _)
          clear xm
          generalize o.code.getD i 0 = x at *
          have e1 : wr.cell? ⟨w.heap.size, 3, none⟩ = some (.slice (some ⟨b, off, none⟩) c.co.n c.co.c) := by rw [r3, ha]
          have e2 := hc wr HB.out.bel
          have lz1 : P.length ≤ 900000000 := by rw [List.length_append] at lz; omega
          clear r3 lz ha hc
          go_wp2_with (go_at_call 86; refine (WD.out _ _ _ _ HB.out x1.1 x1.2 lz1).mono ?_; rintro e w5 ⟨v5, rfl, h5, _⟩; have HE := hid_of h5; clear h5)
          go_roundg g'
          case measure => omega
          case rel => exact ⟨i + 1, by simp, by omega, HZ.out _ _ HE.out⟩
        · have d1 : decide ((i : Int) < (c.co.n : Int)) = false := decide_eq_false (by omega)
          have Z5 := hid_of (And.intro HB.out trivial)
          rw [pfx_all _ _ i (by have := N_co.out; omega)] at Z5
          have Z5 := hid_of (show BB w _ c _ (ad5 o) from Z5.out.1)
          clear HB
          have q4 := C4.out _ _ _ Z5.out
          go_wp2_with (go_at_call 87; refine (PU.out _ _ _ _ Z5.out (by omega) (by omega) l5).mono ?_; rintro e w3 ⟨v3, rfl, h3, _⟩; have Z6 := hid_of (V6.out _ _ h3); clear h3)
          clear Z5 V6 q4
          go_loopg [3, 6] c.pr.n (fun gf s3 s4 wx => ∃ i : Nat, s4 = .int .i64 (i : Int) ∧ i + gf = c.pr.n ∧ Hid (BB w wx c s3 (ad6 o ++ pfx prcL (prcsOf o) i)))
          case atStart => exact ⟨0, rfl, by omega, by rw [pfx_zero, List.append_nil]; exact Z6.out⟩
          case round =>
            clear Z6
            obtain ⟨i, rfl, hi, HB⟩ := hrel
            have r4 := C4.out _ _ _ HB.out
            by_cases hlt : i < c.pr.n
            · obtain ⟨g', rfl⟩ : ∃ g', gk = g' + 1 := ⟨gk - 1, by omega⟩
              have d1 : decide ((i : Int) < (c.pr.n : Int)) = true := decide_eq_true (by omega)
              have j0 : (0 : Int) ≤ (i : Int) := by omega
              have j1 : (i : Int) < (c.pr.n : Int) := by omega
              have HI : Hid (i < o.procs.length) := hid_of (by rw [← N_pr.out]; exact hlt)
              have lz : (ad6 o ++ pfx prcL (prcsOf o) (i + 1)).length ≤ 900000000 := by have := pfx_len prcL (prcsOf o) (i + 1); have e : (ad7 o).length = (ad6 o).length + _ := List.length_append; rw [List.length_append]; omega
              rw [pfx_succ prcL (prcsOf o) (0, ⟨#[]⟩, false) i (by rw [prcs_len]; exact HI.out), ← List.append_assoc] at lz
              have HZ : Hid (∀ X v, BB w X c v ((ad6 o ++ pfx prcL (prcsOf o) i) ++ prcL ((prcsOf o).getD i (0, ⟨#[]⟩, false))) → BB w X c v (ad6 o ++ pfx prcL (prcsOf o) (i + 1))) := fun X v a => by rw [pfx_succ prcL (prcsOf o) (0, ⟨#[]⟩, false) i (by rw [prcs_len]; exact HI.out), ← List.append_assoc]; exact a
              generalize ad6 o ++ pfx prcL (prcsOf o) i = P at HB lz HZ
              obtain ⟨b, off, ha, hc⟩ := el1 HR.out.pr 0 i HI.out
              have HI2 : Hid (i < o.names.length) := hid_of (by rw [HF.out.na.1]; exact HI.out)
              have HI3 : Hid (i < o.exps.length) := hid_of (by rw [HF.out.ex]; exact HI.out)
              obtain ⟨b2, off2, ha2, hc2⟩ := el1 HR.out.na ⟨#[]⟩ i HI2.out
              obtain ⟨b3, off3, ha3, hc3⟩ := el1 HR.out.ex false i HI3.out
              have x1 := HF.out.pr.2 (o.procs.getD i 0) (by rw [getD_at _ _ i HI.out]; exact List.getElem_mem HI.out)
              have x2 := HF.out.na.2 (o.names.getD i ⟨#[]⟩) (by rw [getD_at _ _ i HI2.out]; exact List.getElem_mem HI2.out)
              have hx : (prcsOf o).getD i (0, ⟨#[]⟩, false) = (o.procs.getD i 0, o.names.getD i ⟨#[]⟩, o.exps.getD i false) := by rw [getD_at _ _ i (by rw [prcs_len]; exact HI.out), prcs_at]
              rw [hx] at lz HZ
              clear hx
              generalize o.procs.getD i 0 = x at *
              generalize o.names.getD i ⟨#[]⟩ = y at *
              generalize o.exps.getD i false = z at *
              have lz1 : P.length + ((numL 4 x).length + (textL y).length) + 1 ≤ 900000000 := by have := lz; rw [List.length_append, prcL, List.length_append, List.length_append] at this; simp only [List.length_cons, List.length_nil] at this; omega
              have CE : Hid (∀ X v l, BB w X c v l → X.cell? ⟨w.heap.size, 4, none⟩ = some (.slice (some ⟨b, off, none⟩) c.pr.n c.pr.c) ∧ X.cell? ⟨b, off + i, none⟩ = some (.int .i64 x) ∧ X.cell? ⟨w.heap.size, 5, none⟩ = some (.slice (some ⟨b2, off2, none⟩) c.na.n c.na.c) ∧ X.cell? ⟨b2, off2 + i, none⟩ = some (.string y) ∧ X.cell? ⟨w.heap.size, 6, none⟩ = some (.slice (some ⟨b3, off3, none⟩) c.ex.n c.ex.c) ∧ X.cell? ⟨b3, off3 + i, none⟩ = some (.bool z)) := fun X v l a => ⟨by rw [C4.out _ _ _ a, ha], hc X a.bel, by rw [C5.out _ _ _ a, ha2], hc2 X a.bel, by rw [C6.out _ _ _ a, ha3], hc3 X a.bel⟩
              have OC : Hid (∀ X v l x, BB w X c v l → l.length ≤ 900000000 → _) := fun X v l x a b => a.oct x b
              have m1 : (i : Int) < (c.na.n : Int) := by rw [N_na.out, ← N_pr.out]; omega
              have m2 : (i : Int) < (c.ex.n : Int) := by rw [N_ex.out, ← N_pr.out]; omega
              obtain ⟨e1, e2, e3, e4, e5, e6⟩ := CE.out _ _ _ HB.out
              clear r4 lz ha hc ha2 hc2 ha3 hc3
              cases z
              · go_wp2_with (first
                  | (have hz := H1; clear hz; go_at_call 85; refine (TX.out _ _ _ _ H1.out x2 (by rw [List.length_append]; omega)).mono ?_; rintro e w5 ⟨v5, rfl, h5, _⟩; have H2 := hid_of h5; obtain ⟨f1, f2, f3, f4, f5, f6⟩ := CE.out _ _ _ h5; obtain ⟨v6, w6, hrun, H6⟩ := OC.out _ _ _ 0 h5 (by rw [List.length_append, List.length_append]; omega); clear h5)
                  | (go_at_call 87; refine (PU.out _ _ _ _ HB.out x1.1 x1.2 (by omega)).mono ?_; rintro e w4 ⟨v4, rfl, h4, _⟩; have H1 := hid_of h4; obtain ⟨g1, g2, g3, g4, g5, g6⟩ := CE.out _ _ _ h4; clear h4))
                have HE := hid_of (show BB w _ c _ (P ++ prcL (x, y, false)) by unfold prcL; rw [← List.append_assoc, ← List.append_assoc]; exact H6.out.1)
                go_roundg g'
                case measure => omega
                case rel => exact ⟨i + 1, by simp, by omega, HZ.out _ _ HE.out⟩
              · go_wp2_with (first
                  | (have hz := H1; clear hz; go_at_call 85; refine (TX.out _ _ _ _ H1.out x2 (by rw [List.length_append]; omega)).mono ?_; rintro e w5 ⟨v5, rfl, h5, _⟩; have H2 := hid_of h5; obtain ⟨f1, f2, f3, f4, f5, f6⟩ := CE.out _ _ _ h5; obtain ⟨v6, w6, hrun, H6⟩ := OC.out _ _ _ 1 h5 (by rw [List.length_append, List.length_append]; omega); clear h5)
                  | (go_at_call 87; refine (PU.out _ _ _ _ HB.out x1.1 x1.2 (by omega)).mono ?_; rintro e w4 ⟨v4, rfl, h4, _⟩; have H1 := hid_of h4; obtain ⟨g1, g2, g3, g4, g5, g6⟩ := CE.out _ _ _ h4; clear h4))
                have HE := hid_of (show BB w _ c _ (P ++ prcL (x, y, true)) by unfold prcL; rw [← List.append_assoc, ← List.append_assoc]; exact H6.out.1)
                go_roundg g'
                case measure => omega
                case rel => exact ⟨i + 1, by simp, by omega, HZ.out _ _ HE.out⟩
            · have d1 : decide ((i : Int) < (c.pr.n : Int)) = false := decide_eq_false (by omega)
              have Z7 := hid_of (And.intro HB.out trivial)
              rw [pfx_all _ _ i (by rw [prcs_len]; have := N_pr.out; omega)] at Z7
              have Z7 := hid_of (show BB w _ c _ (ad7 o) from Z7.out.1)
              clear HB
              have q7 := C7.out _ _ _ Z7.out
              go_wp2_with (first
                | (have hz := Z8; clear hz; go_at_call 87; refine (PU.out _ _ _ _ Z8.out (by omega) (by omega) l8).mono ?_; rintro e w3 ⟨v3, rfl, h3, _⟩; have Z9 := hid_of (V9.out _ _ h3); clear h3)
                | (go_at_call 87; refine (PU.out _ _ _ _ Z7.out i0.1 i0.2 l7).mono ?_; rintro e w2 ⟨v2, rfl, h2, _⟩; have Z8 := hid_of (V8.out _ _ h2); have q8 := C8.out _ _ _ Z8.out; clear h2))
              clear Z7 Z8 V8 V9 q7 q8
              go_loopg [3, 8] c.va.n (fun gf s3 s4 wx => ∃ i : Nat, s4 = .int .i64 (i : Int) ∧ i + gf = c.va.n ∧ Hid (BB w wx c s3 (ad9 o ++ pfx (numL 4) o.vars i)))
              case atStart => exact ⟨0, rfl, by omega, by rw [pfx_zero, List.append_nil]; exact Z9.out⟩
              case round =>
                clear Z9
                obtain ⟨i, rfl, hi, HB⟩ := hrel
                have r8 := C8.out _ _ _ HB.out
                by_cases hlt : i < c.va.n
                · obtain ⟨g', rfl⟩ : ∃ g', gk = g' + 1 := ⟨gk - 1, by omega⟩
                  have d1 : decide ((i : Int) < (c.va.n : Int)) = true := decide_eq_true (by omega)
                  have j0 : (0 : Int) ≤ (i : Int) := by omega
                  have j1 : (i : Int) < (c.va.n : Int) := by omega
                  have HI : Hid (i < o.vars.length) := hid_of (by rw [← N_va.out]; exact hlt)
                  have lz : (ad9 o ++ pfx (numL 4) o.vars (i + 1)).length ≤ 900000000 := by have := pfx_len (numL 4) o.vars (i + 1); have e : (ad10 o).length = (ad9 o).length + _ := List.length_append; rw [List.length_append]; omega
                  rw [pfx_succ (numL 4) o.vars 0 i (by exact HI.out), ← List.append_assoc] at lz
                  have HZ : Hid (∀ X v, BB w X c v ((ad9 o ++ pfx (numL 4) o.vars i) ++ (numL 4) (o.vars.getD i 0)) → BB w X c v (ad9 o ++ pfx (numL 4) o.vars (i + 1))) := fun X v a => by rw [pfx_succ (numL 4) o.vars 0 i (by exact HI.out), ← List.append_assoc]; exact a
                  generalize ad9 o ++ pfx (numL 4) o.vars i = P at HB lz HZ
                  obtain ⟨b, off, ha, hc⟩ := el1 HR.out.va 0 i HI.out
                  have xm : o.vars.getD i 0 ∈ o.vars := by rw [getD_at _ _ i HI.out]; exact List.getElem_mem HI.out
                  have x1 := HF.out.va.2 _ xm
                  clear xm
                  generalize o.vars.getD i 0 = x at *
                  have e1 : wr.cell? ⟨w.heap.size, 8, none⟩ = some (.slice (some ⟨b, off, none⟩) c.va.n c.va.c) := by rw [r8, ha]
                  have e2 := hc wr HB.out.bel
                  have lz1 : P.length ≤ 900000000 := by rw [List.length_append] at lz; omega
                  clear r8 lz ha hc
                  go_wp2_with (go_at_call 87; refine (PU.out _ _ _ _ HB.out x1.1 x1.2 lz1).mono ?_; rintro e w5 ⟨v5, rfl, h5, _⟩; have HE := hid_of h5; clear h5)
                  go_roundg g'
                  case measure => omega
                  case rel => exact ⟨i + 1, by simp, by omega, HZ.out _ _ HE.out⟩
                · have d1 : decide ((i : Int) < (c.va.n : Int)) = false := decide_eq_false (by omega)
                  have Z10 := hid_of (And.intro HB.out trivial)
                  rw [pfx_all _ _ i (by have := N_va.out; omega)] at Z10
                  have Z10 := hid_of (show BB w _ c _ (ad10 o) from Z10.out.1)
                  clear HB
                  have q9 := C9.out _ _ _ Z10.out
                  go_wp2_with (go_at_call 87; refine (PU.out _ _ _ _ Z10.out (by omega) (by omega) l10).mono ?_; rintro e w3 ⟨v3, rfl, h3, _⟩; have Z11 := hid_of (V11.out _ _ h3); clear h3)
                  clear Z10 V11 q9
                  go_loopg [3, 9] c.sh.n (fun gf s3 s4 wx => ∃ i : Nat, s4 = .int .i64 (i : Int) ∧ i + gf = c.sh.n ∧ Hid (BB w wx c s3 (ad11 o ++ pfx (numL 4) o.shown i)))
                  case atStart => exact ⟨0, rfl, by omega, by rw [pfx_zero, List.append_nil]; exact Z11.out⟩
                  case round =>
                    clear Z11
                    obtain ⟨i, rfl, hi, HB⟩ := hrel
                    have r9 := C9.out _ _ _ HB.out
                    by_cases hlt : i < c.sh.n
                    · obtain ⟨g', rfl⟩ : ∃ g', gk = g' + 1 := ⟨gk - 1, by omega⟩
                      have d1 : decide ((i : Int) < (c.sh.n : Int)) = true := decide_eq_true (by omega)
                      have j0 : (0 : Int) ≤ (i : Int) := by omega
                      have j1 : (i : Int) < (c.sh.n : Int) := by omega
                      have HI : Hid (i < o.shown.length) := hid_of (by rw [← N_sh.out]; exact hlt)
                      have lz : (ad11 o ++ pfx (numL 4) o.shown (i + 1)).length ≤ 900000000 := by have := pfx_len (numL 4) o.shown (i + 1); have e : (ad12 o).length = (ad11 o).length + _ := List.length_append; rw [List.length_append]; omega
                      rw [pfx_succ (numL 4) o.shown 0 i (by exact HI.out), ← List.append_assoc] at lz
                      have HZ : Hid (∀ X v, BB w X c v ((ad11 o ++ pfx (numL 4) o.shown i) ++ (numL 4) (o.shown.getD i 0)) → BB w X c v (ad11 o ++ pfx (numL 4) o.shown (i + 1))) := fun X v a => by rw [pfx_succ (numL 4) o.shown 0 i (by exact HI.out), ← List.append_assoc]; exact a
                      generalize ad11 o ++ pfx (numL 4) o.shown i = P at HB lz HZ
                      obtain ⟨b, off, ha, hc⟩ := el1 HR.out.sh 0 i HI.out
                      have xm : o.shown.getD i 0 ∈ o.shown := by rw [getD_at _ _ i HI.out]; exact List.getElem_mem HI.out
                      have x1 := HF.out.sh.2 _ xm
                      clear xm
                      generalize o.shown.getD i 0 = x at *
                      have e1 : wr.cell? ⟨w.heap.size, 9, none⟩ = some (.slice (some ⟨b, off, none⟩) c.sh.n c.sh.c) := by rw [r9, ha]
                      have e2 := hc wr HB.out.bel
                      have lz1 : P.length ≤ 900000000 := by rw [List.length_append] at lz; omega
                      clear r9 lz ha hc
                      go_wp2_with (go_at_call 87; refine (PU.out _ _ _ _ HB.out x1.1 x1.2 lz1).mono ?_; rintro e w5 ⟨v5, rfl, h5, _⟩; have HE := hid_of h5; clear h5)
                      go_roundg g'
                      case measure => omega
                      case rel => exact ⟨i + 1, by simp, by omega, HZ.out _ _ HE.out⟩
                    · have d1 : decide ((i : Int) < (c.sh.n : Int)) = false := decide_eq_false (by omega)
                      have Z12 := hid_of (And.intro HB.out trivial)
                      rw [pfx_all _ _ i (by have := N_sh.out; omega)] at Z12
                      have Z12 := hid_of (show BB w _ c _ (ad12 o) from Z12.out.1)
                      clear HB
                      have q10 := C10.out _ _ _ Z12.out
                      go_wp2_with (go_at_call 87; refine (PU.out _ _ _ _ Z12.out (by omega) (by omega) l12).mono ?_; rintro e w3 ⟨v3, rfl, h3, _⟩; have Z13 := hid_of (V13.out _ _ h3); clear h3)
                      clear Z12 V13 q10
                      go_loopg [3, 10] c.st.n (fun gf s3 s4 wx => ∃ i : Nat, s4 = .int .i64 (i : Int) ∧ i + gf = c.st.n ∧ Hid (BB w wx c s3 (ad13 o ++ pfx textL o.strs i)))
                      case atStart => exact ⟨0, rfl, by omega, by rw [pfx_zero, List.append_nil]; exact Z13.out⟩
                      case round =>
                        clear Z13
                        obtain ⟨i, rfl, hi, HB⟩ := hrel
                        have r10 := C10.out _ _ _ HB.out
                        by_cases hlt : i < c.st.n
                        · obtain ⟨g', rfl⟩ : ∃ g', gk = g' + 1 := ⟨gk - 1, by omega⟩
                          have d1 : decide ((i : Int) < (c.st.n : Int)) = true := decide_eq_true (by omega)
                          have j0 : (0 : Int) ≤ (i : Int) := by omega
                          have j1 : (i : Int) < (c.st.n : Int) := by omega
                          have HI : Hid (i < o.strs.length) := hid_of (by rw [← N_st.out]; exact hlt)
                          have lz : (ad13 o ++ pfx textL o.strs (i + 1)).length ≤ 900000000 := by have := pfx_len textL o.strs (i + 1); have e : (ad14 o).length = (ad13 o).length + _ := List.length_append; rw [List.length_append]; omega
                          rw [pfx_succ textL o.strs ⟨#[]⟩ i (by exact HI.out), ← List.append_assoc] at lz
                          have HZ : Hid (∀ X v, BB w X c v ((ad13 o ++ pfx textL o.strs i) ++ textL (o.strs.getD i ⟨#[]⟩)) → BB w X c v (ad13 o ++ pfx textL o.strs (i + 1))) := fun X v a => by rw [pfx_succ textL o.strs ⟨#[]⟩ i (by exact HI.out), ← List.append_assoc]; exact a
                          generalize ad13 o ++ pfx textL o.strs i = P at HB lz HZ
                          obtain ⟨b, off, ha, hc⟩ := el1 HR.out.st ⟨#[]⟩ i HI.out
                          have xm : o.strs.getD i ⟨#[]⟩ ∈ o.strs := by rw [getD_at _ _ i HI.out]; exact List.getElem_mem HI.out
                          have x1 := HF.out.st.2 _ xm
                          clear xm
                          generalize o.strs.getD i ⟨#[]⟩ = x at *
                          have e1 : wr.cell? ⟨w.heap.size, 10, none⟩ = some (.slice (some ⟨b, off, none⟩) c.st.n c.st.c) := by rw [r10, ha]
                          have e2 := hc wr HB.out.bel
                          have lz1 : P.length ≤ 900000000 := by rw [List.length_append] at lz; omega
                          clear r10 lz ha hc
                          go_wp2_with (go_at_call 85; refine (TX.out _ _ _ _ HB.out x1 lz1).mono ?_; rintro e w5 ⟨v5, rfl, h5, _⟩; have HE := hid_of h5; clear h5)
                          go_roundg g'
                          case measure => omega
                          case rel => exact ⟨i + 1, by simp, by omega, HZ.out _ _ HE.out⟩
                        · have d1 : decide ((i : Int) < (c.st.n : Int)) = false := decide_eq_false (by omega)
                          have Z14 := hid_of (And.intro HB.out trivial)
                          rw [pfx_all _ _ i (by have := N_st.out; omega)] at Z14
                          have Z14 := hid_of (show BB w _ c _ (ad14 o) from Z14.out.1)
                          clear HB
                          have q11 := C11.out _ _ _ Z14.out
                          go_wp2_with (go_at_call 87; refine (PU.out _ _ _ _ Z14.out (by omega) (by omega) l14).mono ?_; rintro e w3 ⟨v3, rfl, h3, _⟩; have Z15 := hid_of (V15.out _ _ h3); clear h3)
                          clear Z14 V15 q11
                          go_loopg [3, 11] c.ds.n (fun gf s3 s4 wx => ∃ i : Nat, s4 = .int .i64 (i : Int) ∧ i + gf = c.ds.n ∧ Hid (BB w wx c s3 (ad15 o ++ pfx dscL o.descs i)))
                          case atStart => exact ⟨0, rfl, by omega, by rw [pfx_zero, List.append_nil]; exact Z15.out⟩
                          case round =>
                            clear Z15
                            obtain ⟨i, rfl, hi, HB⟩ := hrel
                            have r11 := C11.out _ _ _ HB.out
                            by_cases hlt : i < c.ds.n
                            · obtain ⟨g', rfl⟩ : ∃ g', gk = g' + 1 := ⟨gk - 1, by omega⟩
                              have d1 : decide ((i : Int) < (c.ds.n : Int)) = true := decide_eq_true (by omega)
                              have j0 : (0 : Int) ≤ (i : Int) := by omega
                              have j1 : (i : Int) < (c.ds.n : Int) := by omega
                              have HI : Hid (i < o.descs.length) := hid_of (by rw [← N_ds.out]; exact hlt)
                              have lz : (ad15 o ++ pfx dscL o.descs (i + 1)).length ≤ 900000000 := by have := pfx_len dscL o.descs (i + 1); have e : (ad16 o).length = (ad15 o).length + _ := List.length_append; rw [List.length_append]; omega
                              rw [pfx_succ dscL o.descs (0, 0, []) i (by exact HI.out), ← List.append_assoc] at lz
                              have HZ : Hid (∀ X v, BB w X c v ((ad15 o ++ pfx dscL o.descs i) ++ dscL (o.descs.getD i (0, 0, []))) → BB w X c v (ad15 o ++ pfx dscL o.descs (i + 1))) := fun X v a => by rw [pfx_succ dscL o.descs (0, 0, []) i (by exact HI.out), ← List.append_assoc]; exact a
                              generalize ad15 o ++ pfx dscL o.descs i = P at HB lz HZ
                              obtain ⟨xs, hxs, rxs, txs⟩ := HR.out.ds
                              have hxl : xs.length = o.descs.length := by rw [← hxs, List.length_map]
                              obtain ⟨b, off, ha, hc⟩ := elk rxs (fun _ => rfl) d0 i (by rw [hxl]; exact HI.out)
                              have hx : o.descs.getD i (0, 0, []) = (xs.getD i d0).1 := by rw [← hxs]; exact getD_fst xs i
                              have xm : xs.getD i d0 ∈ xs := by rw [getD_at _ _ i (by rw [hxl]; exact HI.out)]; exact List.getElem_mem _
                              have rt := txs _ xm
                              have x1 := HF.out.ds.2 (xs.getD i d0).1 (by rw [← hxs]; exact List.mem_map.2 ⟨_, xm, rfl⟩)
                              rw [hx] at lz HZ
                              clear hx xm hxs rxs txs hxl
                              generalize xs.getD i d0 = p at *
                              obtain ⟨⟨y0, y1, tl⟩, t⟩ := p
                              simp only at x1 lz HZ rt
                              obtain ⟨x1, x2, x3, x4⟩ := x1
                              have tn := rt.len
                              have RT := hid_of rt
                              clear rt
                              have lz1 : P.length + ((numL 4 y0).length + ((numL 4 y1).length + ((numL 4 (tl.length : Int)).length + ((tl.map (numL 4)).flatten).length))) ≤ 900000000 := by have := lz; rw [List.length_append, dscL, List.length_append, List.length_append, rowL, List.length_append] at this; exact this
                              have e1 : wr.cell? ⟨w.heap.size, 11, none⟩ = some (.slice (some ⟨b, off, none⟩) c.ds.n c.ds.c) := by rw [r11, ha]
                              have e2 : wr.cell? ⟨b, off + i * 3, none⟩ = some (.int .i64 y0) := hc wr HB.out.bel 0 (by omega)
                              have e3 : wr.cell? ⟨b, off + i * 3 + 1, none⟩ = some (.int .i64 y1) := hc wr HB.out.bel 1 (by omega)
                              have e4 : wr.cell? ⟨b, off + i * 3 + 2, none⟩ = some (.slice t.a t.n t.c) := hc wr HB.out.bel 2 (by omega)
                              have hbw : b < wr.heap.size := cell_lt e2
                              have B0 := hid_of (Box.new HB.out.ow #[.int .i64 y0, .int .i64 y1, .slice t.a t.n t.c] 54)
                              have HA := hid_of (HB.out.alloc (.cells #[.int .i64 y0, .int .i64 y1, .slice t.a t.n t.c] 54))
                              have CB : Hid (∀ X v, Box X v wr.heap.size #[.int .i64 y0, .int .i64 y1, .slice t.a t.n t.c] 54 → X.cell? ⟨wr.heap.size, 0, none⟩ = some (.int .i64 y0) ∧ X.cell? ⟨wr.heap.size, 1, none⟩ = some (.int .i64 y1) ∧ X.cell? ⟨wr.heap.size, 2, none⟩ = some (.slice t.a t.n t.c)) := fun X v a => ⟨blk_cell a.1 0, blk_cell a.1 1, blk_cell a.1 2⟩
                              have V3 : Hid (∀ X v, BB w X c v (P ++ numL 4 y0 ++ numL 4 y1 ++ numL 4 (t.n : Int)) → BB w X c v (P ++ numL 4 y0 ++ numL 4 y1 ++ numL 4 (tl.length : Int))) := fun X v a => by rw [tn] at a; exact a
                              have tb : t.n ≤ 65536 := by rw [tn]; exact x3
                              obtain ⟨wo, rfl⟩ : ∃ wo, wo = wr := ⟨_, rfl⟩
                              have TN := hid_of tn
                              clear r11 lz ha hc tn
                              go_wp2_with (first
                                | (have hz := H2; clear hz; go_at_call 87; refine (PU.out _ _ _ _ H2.out (by omega) (by omega) (by simp only [List.length_append]; omega)).mono ?_; rintro e w6 ⟨v6, rfl, h6, g6⟩; have H3 := hid_of (V3.out _ _ h6); have B3 := hid_of (B2.out.gr g6); obtain ⟨p31, p32, p33⟩ := CB.out _ _ B3.out; clear h6 g6)
                                | (have hz := H1; clear hz; go_at_call 87; refine (PU.out _ _ _ _ H1.out x2.1 x2.2 (by simp only [List.length_append]; omega)).mono ?_; rintro e w5 ⟨v5, rfl, h5, g5⟩; have H2 := hid_of h5; have B2 := hid_of (B1.out.gr g5); obtain ⟨p21, p22, p23⟩ := CB.out _ _ B2.out; clear h5 g5)
                                | (go_at_call 87; refine (PU.out _ _ _ _ HA.out x1.1 x1.2 (by omega)).mono ?_; rintro e w4 ⟨v4, rfl, h4, g4⟩; have H1 := hid_of h4; have B1 := hid_of (B0.out.gr g4); obtain ⟨p11, p12, p13⟩ := CB.out _ _ B1.out; clear h4 g4))
                              clear H1 H2 B0 B1 B2 HA p11 p12 p13 p21 p22 p23 e1 e2 e3 e4 p31 p32 p33
                              go_loopg [3, 13] t.n (fun hf s3 s13 wy => ∃ k : Nat, s13 = .int .i64 (k : Int) ∧ k + hf = t.n ∧ Hid (BB w wy c s3 (P ++ numL 4 y0 ++ numL 4 y1 ++ numL 4 (tl.length : Int) ++ pfx (numL 4) tl k) ∧ Box wy s3 wo.heap.size #[.int .i64 y0, .int .i64 y1, .slice t.a t.n t.c] 54))
                              case atStart => exact ⟨0, rfl, by omega, by rw [pfx_zero, List.append_nil]; exact ⟨H3.out, B3.out⟩⟩
                              case round =>
                                clear H3 B3
                                obtain ⟨k, rfl, hk, HK⟩ := hrel
                                obtain ⟨p1, p2, p3⟩ := CB.out _ _ HK.out.2
                                by_cases hkt : k < t.n
                                · obtain ⟨h', rfl⟩ : ∃ h', gk = h' + 1 := ⟨gk - 1, by omega⟩
                                  have d2 : decide ((k : Int) < (t.n : Int)) = true := decide_eq_true (by omega)
                                  have jj0 : (0 : Int) ≤ (k : Int) := by omega
                                  have jj1 : (k : Int) < (t.n : Int) := by omega
                                  have HKI : Hid (k < tl.length) := hid_of (by rw [← TN.out]; exact hkt)
                                  obtain ⟨b2, off2, ha2, hc2⟩ := el1 RT.out 0 k HKI.out
                                  have xx := x4 (tl.getD k 0) (by rw [getD_at _ _ k HKI.out]; exact List.getElem_mem HKI.out)
                                  have HQ : Hid (∀ X v, BB w X c v (P ++ numL 4 y0 ++ numL 4 y1 ++ numL 4 (tl.length : Int) ++ pfx (numL 4) tl k ++ numL 4 (tl.getD k 0)) → BB w X c v (P ++ numL 4 y0 ++ numL 4 y1 ++ numL 4 (tl.length : Int) ++ pfx (numL 4) tl (k + 1))) := fun X v a => by rw [pfx_succ (numL 4) tl 0 k HKI.out, ← List.append_assoc]; exact a
                                  have lq : (P ++ numL 4 y0 ++ numL 4 y1 ++ numL 4 (tl.length : Int) ++ pfx (numL 4) tl k).length ≤ 900000000 := by have := pfx_len (numL 4) tl k; simp only [List.length_append]; omega
                                  generalize tl.getD k 0 = x at *
                                  have s1 := hc2 wr HK.out.1.bel
                                  rw [ha2] at p3
                                  clear hc2 ha2
                                  go_wp2_with (go_at_call 87; refine (PU.out _ _ _ _ HK.out.1 xx.1 xx.2 lq).mono ?_; rintro e w5 ⟨v5, rfl, h5, g5⟩; have H5 := hid_of (And.intro (HQ.out _ _ h5) (HK.out.2.gr g5)); clear h5 g5)
                                  go_roundg h'
                                  case measure => omega
                                  case rel => exact ⟨k + 1, by simp, by omega, H5.out⟩
                                · have d2 : decide ((k : Int) < (t.n : Int)) = false := decide_eq_false (by omega)
                                  have HE := hid_of (And.intro HK.out.1 trivial)
                                  rw [pfx_all _ _ k (by rw [← TN.out]; omega)] at HE
                                  have HE := hid_of (show BB w _ c _ (P ++ dscL (y0, y1, tl)) by unfold dscL rowL; simp only [← List.append_assoc]; exact HE.out.1)
                                  clear HK
                                  go_wp2
                                  go_roundg g'
                                  case measure => omega
                                  case rel => exact ⟨i + 1, by simp, by omega, HZ.out _ _ HE.out⟩
                            · have d1 : decide ((i : Int) < (c.ds.n : Int)) = false := decide_eq_false (by omega)
                              have Z16 := hid_of (And.intro HB.out trivial)
                              rw [pfx_all _ _ i (by have := N_ds.out; omega)] at Z16
                              have Z16 := hid_of (show BB w _ c _ (ad16 o) from Z16.out.1)
                              clear HB
                              have q12 := C12.out _ _ _ Z16.out
                              go_wp2_with (go_at_call 87; refine (PU.out _ _ _ _ Z16.out (by omega) (by omega) l16).mono ?_; rintro e w3 ⟨v3, rfl, h3, _⟩; have Z17 := hid_of (V17.out _ _ h3); clear h3)
                              clear Z16 V17 q12
                              go_loopg [3, 14] c.fx.n (fun gf s3 s4 wx => ∃ i : Nat, s4 = .int .i64 (i : Int) ∧ i + gf = c.fx.n ∧ Hid (BB w wx c s3 (ad17 o ++ pfx fixL o.fixes i)))
                              case atStart => exact ⟨0, rfl, by omega, by rw [pfx_zero, List.append_nil]; exact Z17.out⟩
                              case round =>
                                clear Z17
                                obtain ⟨i, rfl, hi, HB⟩ := hrel
                                have r12 := C12.out _ _ _ HB.out
                                by_cases hlt : i < c.fx.n
                                · obtain ⟨g', rfl⟩ : ∃ g', gk = g' + 1 := ⟨gk - 1, by omega⟩
                                  have d1 : decide ((i : Int) < (c.fx.n : Int)) = true := decide_eq_true (by omega)
                                  have j0 : (0 : Int) ≤ (i : Int) := by omega
                                  have j1 : (i : Int) < (c.fx.n : Int) := by omega
                                  have HI : Hid (i < o.fixes.length) := hid_of (by rw [← N_fx.out]; exact hlt)
                                  have lz : (ad17 o ++ pfx fixL o.fixes (i + 1)).length ≤ 900000000 := by have := pfx_len fixL o.fixes (i + 1); have e : (ad18 o).length = (ad17 o).length + _ := List.length_append; rw [List.length_append]; omega
                                  rw [pfx_succ fixL o.fixes (0, 0, 0, 0) i (by exact HI.out), ← List.append_assoc] at lz
                                  have HZ : Hid (∀ X v, BB w X c v ((ad17 o ++ pfx fixL o.fixes i) ++ fixL (o.fixes.getD i (0, 0, 0, 0))) → BB w X c v (ad17 o ++ pfx fixL o.fixes (i + 1))) := fun X v a => by rw [pfx_succ fixL o.fixes (0, 0, 0, 0) i (by exact HI.out), ← List.append_assoc]; exact a
                                  generalize ad17 o ++ pfx fixL o.fixes i = P at HB lz HZ
                                  obtain ⟨b, off, ha, hc⟩ := elk HR.out.fx (fun _ => rfl) (0, 0, 0, 0) i HI.out
                                  have x1 := HF.out.fx.2 (o.fixes.getD i (0, 0, 0, 0)) (by rw [getD_at _ _ i HI.out]; exact List.getElem_mem HI.out)
                                  generalize o.fixes.getD i (0, 0, 0, 0) = p at *
                                  obtain ⟨y0, y1, y2, y3⟩ := p
                                  simp only at x1
                                  obtain ⟨x1, x2, x3, x4⟩ := x1
                                  have lz1 : P.length + ((numL 4 y0).length + (1 + ((numL 4 (y2 + 1)).length + (numL 4 y3).length))) ≤ 900000000 := by have := lz; rw [List.length_append, fixL, List.length_append, List.length_append, List.length_append] at this; simp only [List.length_cons, List.length_nil] at this; omega
                                  have e1 : wr.cell? ⟨w.heap.size, 12, none⟩ = some (.slice (some ⟨b, off, none⟩) c.fx.n c.fx.c) := by rw [r12, ha]
                                  have e2 : wr.cell? ⟨b, off + i * 4, none⟩ = some (.int .i64 y0) := hc wr HB.out.bel 0 (by omega)
                                  have e3 : wr.cell? ⟨b, off + i * 4 + 1, none⟩ = some (.int .i64 y1) := hc wr HB.out.bel 1 (by omega)
                                  have e4 : wr.cell? ⟨b, off + i * 4 + 2, none⟩ = some (.int .i64 y2) := hc wr HB.out.bel 2 (by omega)
                                  have e5 : wr.cell? ⟨b, off + i * 4 + 3, none⟩ = some (.int .i64 y3) := hc wr HB.out.bel 3 (by omega)
                                  have hbw : b < wr.heap.size := cell_lt e2
                                  have B0 := hid_of (Box.new HB.out.ow #[.int .i64 y0, .int .i64 y1, .int .i64 y2, .int .i64 y3] 56)
                                  have HA := hid_of (HB.out.alloc (.cells #[.int .i64 y0, .int .i64 y1, .int .i64 y2, .int .i64 y3] 56))
                                  have CB : Hid (∀ X v, Box X v wr.heap.size #[.int .i64 y0, .int .i64 y1, .int .i64 y2, .int .i64 y3] 56 → X.cell? ⟨wr.heap.size, 0, none⟩ = some (.int .i64 y0) ∧ X.cell? ⟨wr.heap.size, 1, none⟩ = some (.int .i64 y1) ∧ X.cell? ⟨wr.heap.size, 2, none⟩ = some (.int .i64 y2) ∧ X.cell? ⟨wr.heap.size, 3, none⟩ = some (.int .i64 y3)) := fun X v a => ⟨blk_cell a.1 0, blk_cell a.1 1, blk_cell a.1 2, blk_cell a.1 3⟩
                                  have OC : Hid (∀ X v l x, BB w X c v l → l.length ≤ 900000000 → _) := fun X v l x a b => a.oct x b
                                  have hk : y1 % 256 = y1 := by omega
                                  clear r12 lz ha hc
                                  go_wp2_with (first
                                    | (have hz := H3; clear hz; go_at_call 87; refine (PU.out _ _ _ _ H3.out x4.1 x4.2 (by simp only [List.length_append, List.length_cons, List.length_nil]; omega)).mono ?_; rintro e w7 ⟨v7, rfl, h7, _⟩; have H4 := hid_of h7; clear h7)
                                    | (have hz := H1; clear hz; go_at_call 87; refine (PU.out _ _ _ _ H6.out.1 (by omega) (by omega) (by simp only [List.length_append, List.length_cons, List.length_nil]; omega)).mono ?_; rintro e w5 ⟨v5, rfl, h5, g5⟩; have H3 := hid_of h5; have B3 := hid_of (B6.out.gr g5); obtain ⟨p31, p32, p33, p34⟩ := CB.out _ _ B3.out; clear h5 g5)
                                    | (go_at_call 87; refine (PU.out _ _ _ _ HA.out x1.1 x1.2 (by omega)).mono ?_; rintro e w4 ⟨v4, rfl, h4, g4⟩; have H1 := hid_of h4; have B1 := hid_of (B0.out.gr g4); obtain ⟨p11, p12, p13, p14⟩ := CB.out _ _ B1.out; obtain ⟨v6, w6, hrun, H6⟩ := OC.out _ _ _ y1 h4 (by simp only [List.length_append]; omega); have B6 := hid_of (B1.out.gr H6.out.2); obtain ⟨p61, p62, p63, p64⟩ := CB.out _ _ B6.out; clear h4 g4))
                                  have HE := hid_of (show BB w _ c _ (P ++ fixL (y0, y1, y2, y3)) by unfold fixL; simp only [← List.append_assoc]; exact H4.out)
                                  go_roundg g'
                                  case measure => omega
                                  case rel => exact ⟨i + 1, by simp, by omega, HZ.out _ _ HE.out⟩
                                · have d1 : decide ((i : Int) < (c.fx.n : Int)) = false := decide_eq_false (by omega)
                                  have Z18 := hid_of (And.intro HB.out trivial)
                                  rw [pfx_all _ _ i (by have := N_fx.out; omega)] at Z18
                                  have Z18 := hid_of (show BB w _ c _ (ad18 o) from Z18.out.1)
                                  clear HB
                                  go_wp2_with (first
                                    | (go_at_call 15; refine (FIN.out _ _ Z18.out).mono ?_; rintro e w8 ⟨rfl, hw8⟩; obtain rfl := hw8.symm; clear hw8)
                                    | (go_at_call 86; refine (WE.out _ _ _ Z18.out rfl).mono ?_; rintro e w9 ⟨v9, rfl, H9⟩))
                                  go_ret
                                  exact ⟨_, rfl, H9.out.1, H9.out.2⟩
end Go.Proofs.Ytepgifapepaheaa
