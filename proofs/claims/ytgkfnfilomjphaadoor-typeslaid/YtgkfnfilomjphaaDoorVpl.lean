/-
  Layer 11: a record behind a row: it is a row again, its fields are found where they were laid: plain.
-/
import Derived.Test.YtgkfnfilomjphaaDoorVfd
import Derived.Test.YtgkfnfilomjphaaDoorVas
namespace Go.Proofs.YtgkfnfilomjphaaDoor
set_option linter.unusedVariables false
set_option linter.unusedSimpArgs false
open Go.ChangeShapes Go.WideShapes Go.ChangeAt Go.RowKit

theorem fdB_refl (a : Fd) : fdB a a = true := by unfold fdB; simp
theorem fsB_refl : ∀ l : List Fd, fsB l l = true
  | [] => rfl
  | a :: r => by rw [fsB, fdB_refl, fsB_refl r]; rfl
theorem sameB_refl (a : Tt) : sameB a a = true := by unfold sameB; rw [fsB_refl]; simp
theorem layF_lay (T : List Tt) (A : List Int) : ∀ (l : List Fd) (s : Int), layF T A s (layF T A s l) = layF T A s l ∧ layS T A s (layF T A s l) = layS T A s l
  | [], s => ⟨rfl, rfl⟩
  | x :: r, s => by
    obtain ⟨h1, h2⟩ := layF_lay T A r (ruI s (alD A x.ty) + (tyD T x.ty).sz)
    constructor
    · rw [layF, layF, h1]
    · rw [layF, layS, h2, layS]
theorem all_nm (P : Bs → Bool) : ∀ fs : List Fd, fs.all (fun f => P f.nm.data.toList) = (fsN fs).all P
  | [] => rfl
  | x :: r => by rw [List.all_cons, all_nm P r]; rfl
theorem tkB_lay (T : List Tt) (A : List Int) (base s : Int) (fs : List Fd) : tkB T base (layF T A s fs) = tkB T base fs := by
  unfold tkB
  rw [all_nm (fun k => !hsB T base k), all_nm (fun k => !hsB T base k), layF_nm]
theorem all_ty (T : List Tt) (A : List Int) (P : Int → Bool) : ∀ (fs : List Fd) (s : Int), (layF T A s fs).all (fun f => P f.ty) = fs.all (fun f => P f.ty)
  | [], _ => rfl
  | x :: r, s => by rw [layF, List.all_cons, List.all_cons, all_ty T A P r]
theorem recOk_lay (T : List Tt) (A : List Int) (base s : Int) (fs : List Fd) : recOk T A base (layF T A s fs) = recOk T A base fs := by
  unfold recOk
  rw [layF_len, tkB_lay, all_ty T A (thB T A)]
/-- What a record that was added is. -/
structure Added (T : List Tt) (base : Int) (fs : List Fd) (m : Tt) : Prop where
  ok : recOk T (alL T) base fs = true
  md : ∃ sl, m = recT T (alL T) base fs sl
  sz : m.sz ≤ 16384
theorem added_of {T : List Tt} {base : Int} {fs : List Fd} {sl : Sl} {m : Tt} (h : recP T (alL T) base fs sl = (m, 0)) : Added T base fs m := by
  unfold recP at h
  split at h
  · rename_i hr
    obtain ⟨rfl, h2⟩ := heldP_ok h
    exact ⟨hr, ⟨sl, rfl⟩, h2⟩
  · injection h with _ h; omega
theorem madeC_t {L X : List Tt} {A : List Int} {k : Nat} {t t' : Tt} (h : ct t = ct t') : madeC L X A k t = madeC L X A k t' := by
  have e : ∀ x : Tt, madeC L X A k (ct x) = madeC L X A k x := fun x => rfl
  rw [← e t, h, e]
theorem sameB_t {m t t' : Tt} (h : ct t = ct t') : sameB m t = sameB m t' := by
  have e : ∀ x : Tt, sameB m (ct x) = sameB m x := fun x => rfl
  rw [← e t, h, e]
section
variable {L T : List Tt} {base : Int} {fs : List Fd} {m : Tt}
theorem okC_more (hT : T.map ct = L.map ct) (X : List Tt) (A : List Int) (k : Nat) (t : Tt) (h : okC L X A k t = true) : okC (T ++ [m]) X A k t = true := by
  have hp : ∀ i, ptrP L i = (ptrT i, 0) → ptrP (T ++ [m]) i = (ptrT i, 0) := by
    intro i hi
    unfold ptrP at hi ⊢
    split at hi
    · rename_i hc
      rw [if_pos (hc.imp id (fun h => isB_snoc (by rw [isB_eq hT]; exact h)))]
    · injection hi with _ h2; omega
  unfold okC madeC at h ⊢
  split
  · rename_i m0 e0 hm
    split at hm
    · rename_i h8
      rw [if_pos h8] at h
      rw [hm] at h
      exact h
    · rename_i h8
      rw [if_neg h8] at h
      split at hm
      · rename_i f8
        rw [if_pos f8, hm] at h
        exact h
      · rename_i f8
        rw [if_neg f8] at h
        split at hm
        · rename_i f9
          rw [if_pos f9, hm] at h
          exact h
        · rename_i f9
          rw [if_neg f9] at h
          split at hm
          · rename_i f10
            rw [if_pos f10, hm] at h
            exact h
          · rename_i f10
            rw [if_neg f10] at h
            split at hm
            · rename_i f11
              rw [if_pos f11] at h
              dsimp only at h
              injection hm with hm
              have hc : ptrP L t.el = (ptrT t.el, 0) := by
                unfold ptrP at h ⊢
                split
                · rfl
                · rename_i hn
                  rw [if_neg hn] at h
                  simp at h
              rw [hc] at h
              rw [hp _ hc] at hm
              injection hm with hm1 hm2
              rw [← hm1, ← hm2]
              exact h
            · cases hm
  · rename_i hm
    split at hm
    · cases hm
    · rename_i h8
      rw [if_neg h8] at h
      split at hm
      · cases hm
      · rename_i f8
        rw [if_neg f8] at h
        split at hm
        · cases hm
        · rename_i f9
          rw [if_neg f9] at h
          split at hm
          · cases hm
          · rename_i f10
            rw [if_neg f10] at h
            split at hm
            · cases hm
            · rename_i f11
              rw [if_neg f11] at h
              cases h
theorem read_more (hr : readB L = true) (hT : T.map ct = L.map ct) (ha : Added T base fs m) : readB (T ++ [m]) = true := by
  have hl : T.length = L.length := by have := congrArg List.length hT; simpa using this
  unfold readB at hr ⊢
  simp only [Bool.and_eq_true, decide_eq_true_eq, List.all_eq_true, List.mem_range] at hr ⊢
  refine ⟨by rw [List.length_append]; omega, fun k hk => ?_⟩
  rw [List.length_append, List.length_singleton] at hk
  by_cases hkT : k < T.length
  · have h1 := hr.2 k (by omega)
    unfold okN at h1 ⊢
    rw [List.getElem?_eq_getElem (show k < L.length by omega)] at h1
    rw [List.getElem?_append_left hkT, List.getElem?_eq_getElem hkT, List.take_append_of_le_length (by omega)]
    dsimp only at h1 ⊢
    have hc : ct T[k] = ct (L[k]'(by omega)) := by
      have e1 : (T.map ct)[k]? = (L.map ct)[k]? := by rw [hT]
      rw [List.getElem?_map, List.getElem?_map, List.getElem?_eq_getElem hkT, List.getElem?_eq_getElem (show k < L.length by omega)] at e1
      simpa using e1
    have ht : (T.take k).map ct = (L.take k).map ct := by rw [List.map_take, List.map_take, hT]
    have h2 := okC_more (m := m) hT (L.take k) (alL (L.take k)) k (L[k]'(by omega)) h1
    rw [← okC_ct, ← ht, okC_ct, ← alL_ct, ← ht, alL_ct] at h2
    unfold okC at h2 ⊢
    rw [madeC_t hc]
    cases hm : madeC (T ++ [m]) (T.take k) (alL (T.take k)) k (L[k]'(by omega)) with
    | none => rw [hm] at h2; cases h2
    | some r =>
      rw [hm] at h2
      dsimp only at h2 ⊢
      rw [sameB_t hc]
      exact h2
  · obtain rfl : k = T.length := by omega
    have e1 : (T ++ [m])[T.length]? = some m := by simp
    have e2 : (T ++ [m]).take T.length = T := by simp
    unfold okN
    rw [e1, e2]
    dsimp only
    obtain ⟨sl, hm⟩ := ha.md
    have hsz := ha.sz
    have e3 : madeC (T ++ [m]) T (alL T) T.length m = some (recT T (alL T) base fs ⟨none, 0, 0⟩, 0) := by
      unfold madeC
      have f1 : m.fm = 10 := by rw [hm]; rfl
      have f2 : m.bs = base := by rw [hm]; rfl
      have f3 : m.fs = layF T (alL T) (begS T base) fs := by rw [hm]; rfl
      have f4 : m.sz = ruI (layS T (alL T) (begS T base) fs) 4 := by rw [hm]; rfl
      rw [if_neg (by omega), if_neg (by omega), if_neg (by omega), if_pos f1, f2, f3]
      congr 1
      unfold recP
      rw [recOk_lay, ha.ok, if_pos rfl]
      unfold heldP recT
      rw [(layF_lay T (alL T) fs (begS T base)).1, (layF_lay T (alL T) fs (begS T base)).2]
      rw [if_neg (by dsimp only; omega)]
    unfold okC
    rw [e3]
    dsimp only
    have e4 : sameB (recT T (alL T) base fs ⟨none, 0, 0⟩) m = true := by
      rw [hm]
      have e : sameB (recT T (alL T) base fs ⟨none, 0, 0⟩) (recT T (alL T) base fs sl) = sameB (recT T (alL T) base fs ⟨none, 0, 0⟩) (recT T (alL T) base fs ⟨none, 0, 0⟩) := rfl
      rw [e, sameB_refl]
    rw [e4]
    rfl
theorem recOk_parts (h : recOk T (alL T) base fs = true) : (base = 0 ∨ isB T base 10 = true) ∧ fs.length ≤ 200 ∧ (∀ f ∈ fs, hsB T base f.nm.data.toList = false) ∧ (fsN fs).Nodup ∧ ∀ f ∈ fs, thB T (alL T) f.ty = true := by
  unfold recOk tkB at h
  simp only [Bool.and_eq_true, Bool.or_eq_true, decide_eq_true_eq, List.all_eq_true, Bool.not_eq_true'] at h
  exact ⟨h.1.imp id And.left, h.2.1, h.2.2.1.1, h.2.2.1.2, h.2.2.2⟩
theorem nm_eq {a b : ByteArray} (h : (a.toList == b.toList) = true) : a = b := by
  rw [beq_iff_eq, Lib.toList_data, Lib.toList_data] at h
  exact ByteArray.ext (Array.ext' h)
theorem find_nd : ∀ (l : List Fd) (i : Nat) (hi : i < l.length), (fsN l).Nodup → l.find? (nmB l[i].nm) = some l[i]
  | x :: r, 0, _, _ => by rw [List.find?_cons]; simp [nmB]
  | x :: r, i + 1, hi, hd => by
    have hd' : x.nm.data.toList ∉ fsN r ∧ (fsN r).Nodup := by
      have : fsN (x :: r) = x.nm.data.toList :: fsN r := rfl
      rw [this, List.nodup_cons] at hd
      exact hd
    have hi' : i < r.length := by simpa using hi
    have hx : nmB (r[i]).nm x = false := by
      cases h : nmB (r[i]).nm x
      · rfl
      · exfalso
        have := nm_eq (a := x.nm) (b := r[i].nm) h
        exact hd'.1 (by rw [this]; exact List.mem_map.2 ⟨r[i], List.getElem_mem hi', rfl⟩)
    show (x :: r).find? (nmB (r[i]).nm) = some r[i]
    rw [List.find?_cons, hx]
    exact find_nd r i hi' hd'.2
theorem layF_at (T : List Tt) (A : List Int) : ∀ (l : List Fd) (s : Int) (i : Nat) (hi : i < l.length) (hi2 : i < (layF T A s l).length), (layF T A s l)[i] = ⟨l[i].nm, l[i].ty, ruI (layS T A s (l.take i)) (alD A l[i].ty)⟩
  | x :: r, s, 0, _, _ => rfl
  | x :: r, s, i + 1, hi, hi2 => by
    have := layF_at T A r (ruI s (alD A x.ty) + (tyD T x.ty).sz) i (by simpa using hi) (by rw [layF_len]; simpa using hi)
    show (layF T A _ r)[i]'_ = _
    rw [this]
    rfl
theorem tyD_at_end : tyD (T ++ [m]) (T.length : Int) = m := by
  unfold tyD
  rw [if_pos (by omega), Int.toNat_natCast, List.getElem?_append_right (Nat.le_refl _), Nat.sub_self]
  rfl
theorem isB_end (hf : m.fm = 10) : isB (T ++ [m]) (T.length : Int) 10 = true := by
  unfold isB hasB
  rw [tyD_at_end, hf]
  simp
  omega
/-- Own fields are found where they were laid. -/
theorem own_found (hg : Good (T ++ [m])) (h8 : 0 < T.length) (ha : Added T base fs m) (i : Nat) (hi : i < fs.length) : fldP (T ++ [m]) (T.length : Int) fs[i].nm = some ⟨fs[i].nm, fs[i].ty, ruI (layS T (alL T) (begS T base) (fs.take i)) (alD (alL T) fs[i].ty)⟩ := by
  obtain ⟨sl, hm⟩ := ha.md
  have f1 : m.fm = 10 := by rw [hm]; rfl
  have f3 : m.fs = layF T (alL T) (begS T base) fs := by rw [hm]; rfl
  have hnd := (recOk_parts ha.ok).2.2.2.1
  have hl : i < (layF T (alL T) (begS T base) fs).length := by rw [layF_len]; exact hi
  have hf := find_nd (layF T (alL T) (begS T base) fs) i hl (by rw [layF_nm]; exact hnd)
  have e := layF_at T (alL T) fs (begS T base) i hi hl
  unfold fldP
  rw [upA_step hg (isB_end f1) (by omega), List.findSome?_cons, tyD_at_end, f3]
  rw [e] at hf
  dsimp only at hf
  rw [hf]
theorem tyD_more {i : Int} (h : isB T i 10 = true) : tyD (T ++ [m]) i = tyD T i := tyD_snoc (isB_has h)
theorem upL_more (hg : Good T) : ∀ (n : Nat) (i : Int), i.toNat ≤ n → (i = 0 ∨ isB T i 10 = true) → ∀ f, upL (T ++ [m]) f i = upL T f i
  | n, i, hn, hi, 0 => rfl
  | n, i, hn, hi, f + 1 => by
    rw [upL, upL]
    split
    · rfl
    · rename_i h0
      have hb := hi.resolve_left h0
      obtain ⟨g0, g1, g2⟩ := hg i hb
      rw [tyD_more hb]
      cases n with
      | zero => omega
      | succ n => rw [upL_more hg n (tyD T i).bs (by omega) g2 f]
theorem upA_more (hg : Good T) {i : Int} (hi : i = 0 ∨ isB T i 10 = true) : upA (T ++ [m]) i = upA T i := upL_more hg _ i (Nat.le_refl _) hi _
/-- What the base has is found in both, at the same place. -/
theorem base_found (hgT : Good T) (hg : Good (T ++ [m])) (h8 : 0 < T.length) (ha : Added T base fs m) (hb : base ≠ 0) (i : Nat) (hi : i < (tyD T base).fs.length) : ∃ f, fldP (T ++ [m]) base ((tyD T base).fs[i]).nm = some f ∧ fldP (T ++ [m]) (T.length : Int) ((tyD T base).fs[i]).nm = some f := by
  obtain ⟨sl, hm⟩ := ha.md
  have f1 : m.fm = 10 := by rw [hm]; rfl
  have f2 : m.bs = base := by rw [hm]; rfl
  have f3 : m.fs = layF T (alL T) (begS T base) fs := by rw [hm]; rfl
  obtain ⟨r1, _, r3, _, _⟩ := recOk_parts ha.ok
  have hbT := r1.resolve_left hb
  obtain ⟨f, hf⟩ : ∃ f, (tyD T base).fs.find? (nmB ((tyD T base).fs[i]).nm) = some f := by
    cases h : (tyD T base).fs.find? (nmB ((tyD T base).fs[i]).nm) with
    | some f => exact ⟨f, rfl⟩
    | none =>
      have := List.find?_eq_none.1 h _ (List.getElem_mem hi)
      simp [nmB] at this
  have h1 : fldP (T ++ [m]) base ((tyD T base).fs[i]).nm = some f := by
    unfold fldP
    rw [upA_step hg (isB_snoc hbT) hb, List.findSome?_cons, tyD_more hbT, hf]
  refine ⟨f, h1, ?_⟩
  have hn : m.fs.find? (nmB ((tyD T base).fs[i]).nm) = none := by
    rw [List.find?_eq_none]
    intro g hg2
    intro hh
    have e := nm_eq (a := g.nm) (b := ((tyD T base).fs[i]).nm) hh
    rw [f3] at hg2
    have e2 : g.nm.data.toList ∈ fsN fs := by rw [← layF_nm T (alL T) fs (begS T base)]; exact List.mem_map.2 ⟨g, hg2, rfl⟩
    obtain ⟨f0, h2, h3⟩ := List.mem_map.1 e2
    have h4 := r3 f0 h2
    rw [h3, e] at h4
    unfold hsB at h4
    rw [List.any_eq_false] at h4
    have h5 := h4 base (by rw [upA_step hgT hbT hb]; exact List.mem_cons_self ..)
    apply h5
    unfold nmL
    rw [List.contains_iff_mem]
    exact List.mem_map.2 ⟨_, List.getElem_mem hi, rfl⟩
  unfold fldP at h1 ⊢
  rw [upA_step hg (isB_end f1) (by omega), List.findSome?_cons, tyD_at_end, hn, f2]
  exact h1
theorem alD_more {i : Int} (h : hasB T i = true) : alD (alL (T ++ [m])) i = alD (alL T) i := by
  have h0 : 0 ≤ i ∧ i < (T.length : Int) := by simpa [hasB] using h
  rw [alL_snoc]
  unfold alD
  rw [if_pos h0.1, if_pos h0.1, List.getElem?_append_left (by rw [alL_len]; omega)]
end
theorem ru4 {x : Int} (h : 0 ≤ x) : (ruI x 4).tmod 4 = 0 ∧ 0 ≤ ruI x 4 ∧ x ≤ ruI x 4 ∧ ruI x 4 - x < 4 := by
  rw [ruI_four h, Int.tmod_eq_emod_of_nonneg (by omega)]
  omega
theorem w200 {n : Nat} (h : n < 200) : wrap64 ((n : Int) + 1) = (n : Int) + 1 ∧ IntKind.i64.wrap ((n : Int) + 1) = (n : Int) + 1 := by
  constructor
  · rw [IntWalk.wrap64_in] <;> omega
  · rw [IntWalk.i64_left, IntWalk.wrap64_in] <;> omega
/-- What is so where a record was added. -/
structure LF (L T : List Tt) (base : Int) (N : List ByteArray) (O : List Int) (m : Tt) : Prop where
  tl : T.length = L.length
  h8 : 8 ≤ L.length
  ls : L.length < 200
  no : N.length = O.length
  n2 : O.length ≤ 200
  ha : Added T base (zipF N O) m
  inv : Inv T
  inv2 : Inv (T ++ [m])
  rd : readB (T ++ [m]) = true
  b0 : 0 ≤ base
  b1 : base < (L.length : Int)
  fm : m.fm = 10
  fl : m.fs.length = O.length
  tm : m.sz.tmod 4 = 0
  s0 : 0 ≤ m.sz
  s1 : m.sz ≤ 16384
  e0 : layS T (alL T) (begS T base) (zipF N O) ≤ m.sz
  e1 : m.sz - layS T (alL T) (begS T base) (zipF N O) < 4
theorem lf_of {L T : List Tt} {base : Int} {N : List ByteArray} {O : List Int} {sl : Sl} {m : Tt} (hr : readB L = true) (hT : T.map ct = L.map ct) (hL : L.length < 200) (h : recP T (alL T) base (zipF N O) sl = (m, 0)) (hNO : N.length = O.length) (hN : N.length ≤ 200) : LF L T base N O m := by
  have ha := added_of h
  have hTL : T.length = L.length := by have := congrArg List.length hT; simpa using this
  have hinv : Inv T := inv_ct (read_inv hr) hT.symm
  have h8 : 8 ≤ L.length := by
    unfold readB at hr
    simp only [Bool.and_eq_true, decide_eq_true_eq] at hr
    exact hr.1
  have hr2 := read_more hr hT ha
  obtain ⟨r1, _, _, _, _⟩ := recOk_parts ha.ok
  obtain ⟨slm, hm⟩ := ha.md
  have f3 : m.fs = layF T (alL T) (begS T base) (zipF N O) := by rw [hm]; rfl
  have f4 : m.sz = ruI (layS T (alL T) (begS T base) (zipF N O)) 4 := by rw [hm]; rfl
  have hS := ru4 (layS_le hinv (zipF N O) (begS T base) (begS_le hinv base).1).1
  rw [← f4] at hS
  have hbase : 0 ≤ base ∧ base < (L.length : Int) := by
    rcases r1 with rfl | h
    · omega
    · have := isB_has h; omega
  exact ⟨hTL, h8, hL, hNO, by omega, ha, hinv, read_inv hr2, hr2, hbase.1, hbase.2, by rw [hm]; rfl, by rw [f3, layF_len, zipF_len hNO, hNO], hS.1, hS.2.1, ha.sz, hS.2.2.1, hS.2.2.2⟩
end Go.Proofs.YtgkfnfilomjphaaDoor
