/-
  Layer 11: what is read of a row, and what a record is laid out as: plain.
-/
import Derived.Test.YtgkfnfilomjphaaDoorVtk
import Derived.Test.YtgkfnfilomjphaaDoorVso
import Derived.Test.YtgkfnfilomjphaaDoorVsn
import Derived.Test.YtgkfnfilomjphaaDoorVsr
namespace Go.Proofs.YtgkfnfilomjphaaDoor
set_option linter.unusedVariables false
set_option linter.unusedSimpArgs false

/-- A type but for where its fields lie. -/
def ct (t : Tt) : Tt := ⟨t.fm, t.ln, t.el, t.bs, ⟨none, 0, 0⟩, t.sz, t.lv, t.fs⟩
theorem tyD_ct (T : List Tt) (i : Int) : tyD (T.map ct) i = ct (tyD T i) := by
  unfold tyD
  split
  · rw [List.getElem?_map]
    cases T[i.toNat]? <;> rfl
  · rfl
theorem hasB_ct (T : List Tt) (i : Int) : hasB (T.map ct) i = hasB T i := by unfold hasB; rw [List.length_map]
theorem isB_ct (T : List Tt) (i f : Int) : isB (T.map ct) i f = isB T i f := by unfold isB; rw [hasB_ct, tyD_ct]; rfl
theorem thB_ct (T : List Tt) (A : List Int) (i : Int) : thB (T.map ct) A i = thB T A i := by unfold thB; rw [hasB_ct]
theorem upL_ct (T : List Tt) : ∀ (n : Nat) (i : Int), upL (T.map ct) n i = upL T n i
  | 0, _ => rfl
  | n + 1, i => by rw [upL, upL, tyD_ct, upL_ct T n]; rfl
theorem upA_ct (T : List Tt) (i : Int) : upA (T.map ct) i = upA T i := upL_ct T _ i
theorem hsB_ct (T : List Tt) (i : Int) (k : Bs) : hsB (T.map ct) i k = hsB T i k := by
  unfold hsB
  rw [upA_ct]
  congr 1
  funext x
  rw [tyD_ct]
  rfl
theorem tkB_ct (T : List Tt) (base : Int) (fs : List Fd) : tkB (T.map ct) base fs = tkB T base fs := by
  unfold tkB
  congr 2
  funext x
  rw [hsB_ct]
theorem arrP_ct (T : List Tt) (A : List Int) (n el : Int) : arrP (T.map ct) A n el = arrP T A n el := by unfold arrP; rw [thB_ct, tyD_ct]; rfl
theorem openP_ct (T : List Tt) (A : List Int) (i : Int) : openP (T.map ct) A i = openP T A i := by unfold openP; rw [thB_ct]
/-- How far fields reach that are laid from a place on; where each stands. -/
def layS (T : List Tt) (A : List Int) : Int → List Fd → Int
  | s, [] => s
  | s, f :: r => layS T A (ruI s (alD A f.ty) + (tyD T f.ty).sz) r
def layF (T : List Tt) (A : List Int) : Int → List Fd → List Fd
  | _, [] => []
  | s, f :: r => ⟨f.nm, f.ty, ruI s (alD A f.ty)⟩ :: layF T A (ruI s (alD A f.ty) + (tyD T f.ty).sz) r
theorem layS_snoc (T : List Tt) (A : List Int) : ∀ (l : List Fd) (s : Int) (f : Fd), layS T A s (l ++ [f]) = ruI (layS T A s l) (alD A f.ty) + (tyD T f.ty).sz
  | [], s, f => rfl
  | x :: r, s, f => by rw [List.cons_append, layS, layS_snoc T A r, layS]
theorem layF_snoc (T : List Tt) (A : List Int) : ∀ (l : List Fd) (s : Int) (f : Fd), layF T A s (l ++ [f]) = layF T A s l ++ [⟨f.nm, f.ty, ruI (layS T A s l) (alD A f.ty)⟩]
  | [], s, f => rfl
  | x :: r, s, f => by rw [List.cons_append, layF, layF_snoc T A r, layF, List.cons_append, layS]
theorem layF_len (T : List Tt) (A : List Int) : ∀ (l : List Fd) (s : Int), (layF T A s l).length = l.length
  | [], _ => rfl
  | x :: r, s => by rw [layF, List.length_cons, layF_len T A r, List.length_cons]
theorem layF_nm (T : List Tt) (A : List Int) : ∀ (l : List Fd) (s : Int), fsN (layF T A s l) = fsN l
  | [], _ => rfl
  | x :: r, s => by
    have := layF_nm T A r (ruI s (alD A x.ty) + (tyD T x.ty).sz)
    unfold fsN at this ⊢
    rw [layF, List.map_cons, List.map_cons, this]
theorem layS_ct (T : List Tt) (A : List Int) : ∀ (l : List Fd) (s : Int), layS (T.map ct) A s l = layS T A s l
  | [], _ => rfl
  | x :: r, s => by rw [layS, layS, layS_ct T A r, tyD_ct]; rfl
theorem layF_ct (T : List Tt) (A : List Int) : ∀ (l : List Fd) (s : Int), layF (T.map ct) A s l = layF T A s l
  | [], _ => rfl
  | x :: r, s => by rw [layF, layF, layF_ct T A r, tyD_ct]; rfl
/-- Where a record's own fields begin; how deep it extends. -/
def begS (T : List Tt) (base : Int) : Int := if base = 0 then 0 else (tyD T base).sz
def begL (T : List Tt) (base : Int) : Int := if base = 0 then 0 else (tyD T base).lv + 1
def recOk (T : List Tt) (A : List Int) (base : Int) (fs : List Fd) : Bool := (decide (base = 0) || (isB T base 10 && !decide ((tyD T base).lv = 3))) && (decide (fs.length ≤ 200) && (tkB T base fs && fs.all fun f => thB T A f.ty))
def recT (T : List Tt) (A : List Int) (base : Int) (fs : List Fd) (s : Sl) : Tt := ⟨10, 0, 0, base, s, ruI (layS T A (begS T base) fs) 4, begL T base, layF T A (begS T base) fs⟩
def recP (T : List Tt) (A : List Int) (base : Int) (fs : List Fd) (s : Sl) : Tt × Int := if recOk T A base fs then heldP (recT T A base fs s) else (zeroT, 110)
theorem recOk_ct (T : List Tt) (A : List Int) (base : Int) (fs : List Fd) : recOk (T.map ct) A base fs = recOk T A base fs := by
  unfold recOk
  rw [isB_ct, tyD_ct, tkB_ct, show (fun f : Fd => thB (T.map ct) A f.ty) = fun f => thB T A f.ty from funext fun f => thB_ct T A f.ty]
  rfl
theorem begS_ct (T : List Tt) (base : Int) : begS (T.map ct) base = begS T base := by unfold begS; rw [tyD_ct]; rfl
theorem begL_ct (T : List Tt) (base : Int) : begL (T.map ct) base = begL T base := by unfold begL; rw [tyD_ct]; rfl
theorem recP_ct (T : List Tt) (A : List Int) (base : Int) (fs : List Fd) (s : Sl) : recP (T.map ct) A base fs s = recP T A base fs s := by
  unfold recP recT
  rw [recOk_ct, begS_ct, begL_ct, layS_ct, layF_ct]
/-- What is made where a type stands. -/
def madeC (L T : List Tt) (A : List Int) (k : Nat) (t : Tt) : Option (Tt × Int) :=
  if k < 8 then some (basT k, 0) else if t.fm = 8 then some (arrP T A t.ln t.el) else if t.fm = 9 then some (openP T A t.el) else if t.fm = 10 then some (recP T A t.bs t.fs ⟨none, 0, 0⟩) else if t.fm = 11 then some (ptrP L t.el) else none
def okC (L T : List Tt) (A : List Int) (k : Nat) (t : Tt) : Bool := match madeC L T A k t with
  | some (m, e) => decide (e = 0) && sameB m t
  | none => false
theorem okC_ct (L T : List Tt) (A : List Int) (k : Nat) (t : Tt) : okC L (T.map ct) A k t = okC L T A k t := by
  unfold okC madeC
  rw [arrP_ct, openP_ct, recP_ct]
/-- At what places the things of each type stand. -/
def alL (T : List Tt) : List Int := T.foldl (fun A t => A ++ [alP A t]) []
theorem alL_snoc (T : List Tt) (t : Tt) : alL (T ++ [t]) = alL T ++ [alP (alL T) t] := by unfold alL; rw [List.foldl_append]; rfl
theorem alL_ct (T : List Tt) : alL (T.map ct) = alL T := by
  unfold alL
  rw [List.foldl_map]
  rfl
theorem alL_len (T : List Tt) : (alL T).length = T.length := by
  have : ∀ (l : List Tt) (A : List Int), (l.foldl (fun A t => A ++ [alP A t]) A).length = A.length + l.length := by
    intro l
    induction l with
    | nil => intro A; rfl
    | cons x r ih => intro A; rw [List.foldl_cons, ih, List.length_append, List.length_cons, List.length_cons, List.length_nil]; omega
  have := this T []
  simpa [alL] using this
def okN (L : List Tt) (k : Nat) : Bool := match L[k]? with
  | some t => okC L (L.take k) (alL (L.take k)) k t
  | none => false
/-- Is it a row? -/
def readB (L : List Tt) : Bool := decide (8 ≤ L.length) && (List.range L.length).all (okN L)
theorem ct_eq {a b : Tt} (h : sameB a b = true) : ct a = ct b := by
  have hf : ∀ (xs ys : List Fd), fsB xs ys = true → xs = ys := by
    intro xs
    induction xs with
    | nil => intro ys h; cases ys with
      | nil => rfl
      | cons y s => simp [fsB] at h
    | cons x r ih => intro ys h; cases ys with
      | nil => simp [fsB] at h
      | cons y s =>
        simp only [fsB, Bool.and_eq_true] at h
        obtain ⟨h1, h2⟩ := h
        rw [ih s h2]
        congr 1
        unfold fdB at h1
        simp only [Bool.and_eq_true, beq_iff_eq] at h1
        obtain ⟨⟨a1, a2⟩, a3⟩ := h1
        cases x; cases y
        dsimp only at a1 a2 a3
        rw [Lib.toList_data, Lib.toList_data] at a1
        subst a2 a3
        congr 1
        exact ByteArray.ext (Array.ext' a1)
  unfold sameB at h
  simp only [Bool.and_eq_true, beq_iff_eq] at h
  obtain ⟨h1, h2, h3, h4, h5, h6, h7⟩ := h
  unfold ct
  rw [h1, h2, h3, h4, h5, h6, hf _ _ h7]
/-- What is held of the types that were found. -/
structure Inv (T : List Tt) : Prop where
  sz : ∀ t ∈ T, 0 ≤ t.sz ∧ t.sz ≤ 16384
  lv : ∀ t ∈ T, 0 ≤ t.lv ∧ t.lv ≤ 3
  al : ∀ a ∈ alL T, a = 0 ∨ a = 1 ∨ a = 4
  gd : Good T
theorem ruI_one (n : Int) : ruI n 1 = n := by unfold ruI; rw [Int.mul_one, Int.tdiv_one]; omega
theorem ruI_four {n : Int} (h : 0 ≤ n) : ruI n 4 = (n + 3) / 4 * 4 := by unfold ruI; rw [Int.tdiv_eq_ediv_of_nonneg (by omega)]; rw [show n + 4 - 1 = n + 3 by omega]
theorem ruI_zero (n : Int) : ruI n 0 = 0 := by unfold ruI; rw [Int.mul_zero]
theorem ruI_le {n a : Int} (h : 0 ≤ n) (ha : a = 0 ∨ a = 1 ∨ a = 4) : 0 ≤ ruI n a ∧ ruI n a ≤ n + 3 := by
  rcases ha with rfl | rfl | rfl
  · rw [ruI_zero]; omega
  · rw [ruI_one]; omega
  · rw [ruI_four h]; omega
theorem alD_in {A : List Int} (h : ∀ a ∈ A, a = 0 ∨ a = 1 ∨ a = 4) (i : Int) : alD A i = 0 ∨ alD A i = 1 ∨ alD A i = 4 := by
  unfold alD
  split
  · cases ha : A[i.toNat]? with
    | none => exact .inl rfl
    | some a => exact h a (List.mem_of_getElem? ha)
  · exact .inl rfl
theorem tyD_in {T : List Tt} {p : Tt → Prop} (h : ∀ t ∈ T, p t) (h0 : p zeroT) (i : Int) : p (tyD T i) := by
  unfold tyD
  split
  · cases ha : T[i.toNat]? with
    | none => exact h0
    | some a => exact h a (List.mem_of_getElem? ha)
  · exact h0
theorem Inv.szD {T : List Tt} (h : Inv T) (i : Int) : 0 ≤ (tyD T i).sz ∧ (tyD T i).sz ≤ 16384 := tyD_in (p := fun t => 0 ≤ t.sz ∧ t.sz ≤ 16384) h.sz ⟨by decide, by decide⟩ i
theorem Inv.lvD {T : List Tt} (h : Inv T) (i : Int) : 0 ≤ (tyD T i).lv ∧ (tyD T i).lv ≤ 3 := tyD_in (p := fun t => 0 ≤ t.lv ∧ t.lv ≤ 3) h.lv ⟨by decide, by decide⟩ i
theorem layS_le {T : List Tt} (h : Inv T) : ∀ (l : List Fd) (s : Int), 0 ≤ s → 0 ≤ layS T (alL T) s l ∧ layS T (alL T) s l ≤ s + l.length * 16387
  | [], s, h0 => by rw [layS]; simp; exact h0
  | f :: r, s, h0 => by
    have h1 := ruI_le h0 (alD_in h.al f.ty)
    have h2 := h.szD f.ty
    have h3 := layS_le h r (ruI s (alD (alL T) f.ty) + (tyD T f.ty).sz) (by omega)
    rw [layS, List.length_cons]
    push_cast
    omega
theorem begS_le {T : List Tt} (h : Inv T) (b : Int) : 0 ≤ begS T b ∧ begS T b ≤ 16384 := by
  unfold begS
  split
  · omega
  · exact h.szD b
theorem inv_nil : Inv [] := ⟨by simp, by simp, by simp [alL], fun i hi => by have := isB_has hi; simp at this; omega⟩
theorem tyD_snoc {T : List Tt} {m : Tt} {i : Int} (h : 0 ≤ i ∧ i < (T.length : Int)) : tyD (T ++ [m]) i = tyD T i := by
  unfold tyD
  rw [if_pos h.1, if_pos h.1, List.getElem?_append_left (by omega)]
theorem isB_snoc {T : List Tt} {m : Tt} {i f : Int} (h : isB T i f = true) : isB (T ++ [m]) i f = true := by
  have h1 := isB_has h
  have h2 := isB_fm h
  unfold isB hasB
  rw [tyD_snoc h1, h2]
  simp
  omega
theorem isB_last {T : List Tt} {m : Tt} {i f : Int} (h : isB (T ++ [m]) i f = true) : isB T i f = true ∨ (i = (T.length : Int) ∧ m.fm = f ∧ tyD (T ++ [m]) i = m) := by
  have h1 := isB_has h
  have h2 := isB_fm h
  simp at h1
  by_cases hi : i < (T.length : Int)
  · left
    rw [tyD_snoc ⟨h1.1, hi⟩] at h2
    unfold isB hasB
    rw [h2]
    simp
    omega
  · right
    obtain rfl : i = (T.length : Int) := by omega
    have h3 : tyD (T ++ [m]) (T.length : Int) = m := by
      unfold tyD
      rw [if_pos (by omega), Int.toNat_natCast, List.getElem?_append_right (Nat.le_refl _), Nat.sub_self]
      rfl
    rw [h3] at h2
    exact ⟨rfl, h2, h3⟩
theorem Inv.snoc {T : List Tt} (h : Inv T) (m : Tt) (hs : 0 ≤ m.sz ∧ m.sz ≤ 16384) (hl : 0 ≤ m.lv ∧ m.lv ≤ 3) (ha : alP (alL T) m = 0 ∨ alP (alL T) m = 1 ∨ alP (alL T) m = 4) (hg : m.fm = 10 → 0 < T.length ∧ (m.bs = 0 ∨ isB T m.bs 10 = true)) : Inv (T ++ [m]) := by
  refine ⟨?_, ?_, ?_, ?_⟩
  · intro t ht
    rcases List.mem_append.1 ht with h1 | h1
    · exact h.sz t h1
    · rw [List.mem_singleton.1 h1]; exact hs
  · intro t ht
    rcases List.mem_append.1 ht with h1 | h1
    · exact h.lv t h1
    · rw [List.mem_singleton.1 h1]; exact hl
  · rw [alL_snoc]
    intro a ht
    rcases List.mem_append.1 ht with h1 | h1
    · exact h.al a h1
    · rw [List.mem_singleton.1 h1]; exact ha
  · intro i hi
    rcases isB_last hi with h1 | ⟨h1, h2, h3⟩
    · obtain ⟨g0, g1, g2⟩ := h.gd i h1
      rw [tyD_snoc (isB_has h1)]
      exact ⟨g0, g1, g2.imp id isB_snoc⟩
    · rw [h3, h1]
      obtain ⟨h0, h4⟩ := hg h2
      rcases h4 with h4 | h4
      · rw [h4]
        exact ⟨by omega, by omega, .inl rfl⟩
      · have := isB_has h4
        exact ⟨this.1, this.2, .inr (isB_snoc h4)⟩
theorem heldP_ok {t m : Tt} (h : heldP t = (m, 0)) : m = t ∧ t.sz ≤ 16384 := by
  unfold heldP at h
  split at h
  · injection h with _ h2
    omega
  · injection h with h1 h2
    exact ⟨h1.symm, by omega⟩
theorem made_inv {L T : List Tt} (h : Inv T) {t m : Tt} (hm : madeC L T (alL T) T.length t = some (m, 0)) : Inv (T ++ [m]) := by
  unfold madeC at hm
  split at hm
  · rename_i hk
    injection hm with hm
    injection hm with hm _
    subst hm
    have hc : T.length = 0 ∨ T.length = 1 ∨ T.length = 2 ∨ T.length = 3 ∨ T.length = 4 ∨ T.length = 5 ∨ T.length = 6 ∨ T.length = 7 := by omega
    rcases hc with e | e | e | e | e | e | e | e <;> rw [e] <;> exact h.snoc _ (by decide) (by decide) (by simp [alP, basT]) (fun h => by simp [basT] at h)
  · rename_i hk
    split at hm
    · injection hm with hm
      unfold arrP at hm
      split at hm
      · injection hm with _ hm; omega
      · rename_i hn
        obtain ⟨rfl, h2⟩ := heldP_ok hm
        refine h.snoc _ ⟨?_, h2⟩ (by simp [arrT]) ?_ (fun h => by simp [arrT] at h)
        · have := h.szD t.el
          exact Int.mul_nonneg (by omega) this.1
        · simp only [alP, arrT]
          exact alD_in h.al _
    · split at hm
      · injection hm with hm
        unfold openP at hm
        split at hm
        · injection hm with hm _
          subst hm
          exact h.snoc _ (by simp) (by simp) (by simp [alP]) (fun h => by simp at h)
        · injection hm with _ hm; omega
      · split at hm
        · injection hm with hm
          unfold recP at hm
          split at hm
          · rename_i hr
            obtain ⟨rfl, h2⟩ := heldP_ok hm
            unfold recOk at hr
            simp only [Bool.and_eq_true, Bool.or_eq_true, decide_eq_true_eq, Bool.not_eq_true', decide_eq_false_iff_not] at hr
            have hb := begS_le h t.bs
            have hs := layS_le h t.fs (begS T t.bs) hb.1
            have hl := h.lvD t.bs
            refine h.snoc _ ⟨?_, h2⟩ ?_ (by simp [alP, recT]) (fun _ => ⟨by omega, ?_⟩)
            · exact (ruI_le hs.1 (.inr (.inr rfl))).1
            · simp only [recT, begL]
              split
              · omega
              · have := hr.1.resolve_left (by assumption)
                omega
            · exact hr.1.imp id fun h => h.1
          · injection hm with _ hm; omega
        · split at hm
          · injection hm with hm
            unfold ptrP at hm
            split at hm
            · injection hm with hm _
              subst hm
              exact h.snoc _ (by simp [ptrT]) (by simp [ptrT]) (by simp [alP, ptrT]) (fun h => by simp [ptrT] at h)
            · injection hm with _ hm; omega
          · cases hm
/-- What was found of a list up to some place. -/
structure Fnd (L T : List Tt) : Prop where
  ct : T.map ct = (L.take T.length).map ct
  le : T.length ≤ L.length
  inv : Inv T
  ok : ∀ k, k < T.length → okN L k = true
theorem fnd_nil (L : List Tt) : Fnd L [] := ⟨by simp, by simp, inv_nil, by simp⟩
theorem Fnd.okN {L T : List Tt} (h : Fnd L T) (hk : T.length < L.length) : Go.Proofs.YtgkfnfilomjphaaDoor.okN L T.length = okC L T (alL T) T.length L[T.length] := by
  unfold Go.Proofs.YtgkfnfilomjphaaDoor.okN
  rw [List.getElem?_eq_getElem hk]
  dsimp only
  rw [← okC_ct L (L.take T.length), ← alL_ct (L.take T.length), ← h.ct, okC_ct, alL_ct]
theorem ct_alP {a b : Tt} (h : ct a = ct b) (A : List Int) : alP A a = alP A b := by
  have : alP A (ct a) = alP A (ct b) := by rw [h]
  exact this
theorem Fnd.step {L T : List Tt} (h : Fnd L T) (hk : T.length < L.length) (m m0 : Tt) (hm : madeC L T (alL T) T.length L[T.length] = some (m0, 0)) (hc : Go.Proofs.YtgkfnfilomjphaaDoor.ct m = Go.Proofs.YtgkfnfilomjphaaDoor.ct m0) (hs : sameB m0 L[T.length] = true) (hi : Inv (T ++ [m])) : Fnd L (T ++ [m]) := by
  refine ⟨?_, by rw [List.length_append, List.length_singleton]; omega, hi, ?_⟩
  · rw [List.map_append, List.length_append, List.length_singleton, List.take_add_one, List.getElem?_eq_getElem hk, List.map_append, ← h.ct, List.map_singleton, hc, ct_eq hs]
    rfl
  · intro k hk2
    rw [List.length_append, List.length_singleton] at hk2
    by_cases e : k < T.length
    · exact h.ok k e
    · obtain rfl : k = T.length := by omega
      rw [h.okN hk]
      unfold okC
      rw [hm]
      simp [hs]
theorem Fnd.stop {L T : List Tt} (h : Fnd L T) (hk : T.length < L.length) (hf : okC L T (alL T) T.length L[T.length] = false) : readB L = false := by
  unfold readB
  rw [Bool.and_eq_false_iff]
  right
  rw [List.all_eq_false]
  exact ⟨T.length, List.mem_range.2 hk, by rw [h.okN hk, hf]; simp⟩
theorem Fnd.all {L T : List Tt} (h : Fnd L T) (hk : T.length = L.length) : readB L = decide (8 ≤ L.length) ∧ T.map Go.Proofs.YtgkfnfilomjphaaDoor.ct = L.map Go.Proofs.YtgkfnfilomjphaaDoor.ct := by
  constructor
  · unfold readB
    have : (List.range L.length).all (Go.Proofs.YtgkfnfilomjphaaDoor.okN L) = true := by
      rw [List.all_eq_true]
      intro k hk2
      exact h.ok k (by rw [hk]; exact List.mem_range.1 hk2)
    rw [this, Bool.and_true]
  · rw [h.ct, hk, List.take_length]
end Go.Proofs.YtgkfnfilomjphaaDoor
