/-
  Layer 13, plain: what was written is read.
-/
import Derived.Test.YtcppgpcgbggdcaaDoorYow
namespace Go.Proofs.YtcppgpcgbggdcaaDoor
set_option linter.unusedVariables false
set_option linter.unusedSimpArgs false

/-- Bytes that lie from a place on. -/
def Lies (f : Nat → Int) (p : Nat) (l : List Int) : Prop := ∀ j, j < l.length → f (p + j) = l.getD j 0
theorem Lies.left {f : Nat → Int} {p : Nat} {a b : List Int} (h : Lies f p (a ++ b)) : Lies f p a := fun j hj => by
  have := h j (by rw [List.length_append]; omega)
  rw [this, List.getD_eq_getElem?_getD, List.getD_eq_getElem?_getD, List.getElem?_append_left hj]
theorem Lies.right {f : Nat → Int} {p : Nat} {a b : List Int} (h : Lies f p (a ++ b)) : Lies f (p + a.length) b := fun j hj => by
  have := h (a.length + j) (by rw [List.length_append]; omega)
  rw [Nat.add_assoc, this, List.getD_eq_getElem?_getD, List.getD_eq_getElem?_getD, List.getElem?_append_right (by omega), Nat.add_sub_cancel_left]
theorem rdU_back (g : Nat → Int) (avail : Nat) : ∀ (k i : Nat) (acc m : Int), 0 ≤ acc → 0 ≤ m → m < 128 ^ (k + 1) → (0 < i → 1 ≤ m) → acc + m * 128 ^ i ≤ 4294967295 → i + (numL k m).length ≤ avail → (∀ j, j < (numL k m).length → g (i + j) = (numL k m).getD j 0) → rdU g avail (k + 1) i acc = some (acc + m * 128 ^ i, i + (numL k m).length)
  | k, i, acc, m, ha, h0, h1, hi, hs, hav, hg => by
    by_cases hm : m < 128
    · rw [numL_small k m hm] at hav hg ⊢
      have hg0 : g i = m := hg 0 (by simp)
      simp only [List.length_cons, List.length_nil] at hav ⊢
      have hm2 : m % 128 = m := by omega
      rw [rdU, if_neg (by omega), hg0, if_neg (by omega), hm2, if_neg]
      intro hc
      rcases hc with hc | ⟨e, hc⟩
      · omega
      · have := hi hc; omega
    · cases k with
      | zero => rw [show (128 : Int) ^ (0 + 1) = 128 from rfl] at h1; omega
      | succ k =>
        rw [numL_big k m hm] at hav hg ⊢
        have hg0 : g i = m % 128 + 128 := hg 0 (by simp)
        simp only [List.length_cons] at hav hg ⊢
        have hm2 : (m % 128 + 128) % 128 = m % 128 := by omega
        have hP : (0 : Int) < 128 ^ i := Int.pow_pos (by omega)
        have hsum : acc + m % 128 * 128 ^ i + m / 128 * 128 ^ (i + 1) = acc + m * 128 ^ i := by
          rw [Int.pow_succ, Int.add_assoc]
          congr 1
          rw [← Int.mul_assoc, Int.mul_comm (m / 128 * 128 ^ i) 128, ← Int.mul_assoc, ← Int.add_mul]
          congr 1
          omega
        have hacc : 0 ≤ m % 128 * 128 ^ i := Int.mul_nonneg (by omega) (Int.le_of_lt hP)
        rw [rdU, if_neg (by omega), hg0, if_pos (by omega), hm2]
        have ih := rdU_back g avail k (i + 1) (acc + m % 128 * 128 ^ i) (m / 128) (by omega) (by omega) (by rw [Int.pow_succ] at h1; omega) (fun _ => by omega) (by omega) (by omega) (fun j hj => by
          have := hg (j + 1) (by omega)
          rw [List.getD_cons_succ] at this
          rw [← this]
          congr 1
          omega)
        rw [ih, hsum]
        congr 2
        omega
theorem uint_back {f : Nat → Int} {len p : Nat} {n : Int} (h0 : 0 ≤ n) (h1 : n ≤ 4294967295) (hl : p + (numL 4 n).length ≤ len) (h : Lies f p (numL 4 n)) : uintR f len (p : Int) = some (n, (numL 4 n).length) := by
  unfold uintR
  rw [if_pos ⟨by omega, by omega⟩]
  have := rdU_back (fun j => f ((p : Int).toNat + j)) (len - (p : Int).toNat) 4 0 0 n (by omega) h0 (by rw [show (128 : Int) ^ (4 + 1) = 34359738368 from rfl]; omega) (fun h => by omega) (by simp; omega) (by simp; omega) (fun j hj => by simp only [Int.toNat_natCast, Nat.zero_add]; exact h j hj)
  rw [this]
  simp
def Back {α : Type} (f : Nat → Int) (len : Nat) (rd : St → α × St) (L : α → List Int) (ok : α → Prop) : Prop := ∀ x p, ok x → p + (L x).length ≤ len → Lies f p (L x) → rd ⟨p, false⟩ = (x, ⟨p + (L x).length, false⟩)
theorem num_back (f : Nat → Int) (len : Nat) (most : Int) (hm : most ≤ 4294967295) : Back f len (numS f len most) (numL 4) (fun n => 0 ≤ n ∧ n ≤ most) := by
  intro n p ⟨h0, h1⟩ hl h
  unfold numS
  rw [uint_back h0 (by omega) hl h]
  simp only [Bool.not_false, Bool.true_and, decide_eq_true_eq]
  rw [if_pos h1]
theorem nums_sL (s : ByteArray) : strOfNums (sL s) = s := by
  unfold strOfNums sL
  rw [List.map_map]
  have : (fun n : Int => UInt8.ofNat n.toNat) ∘ (fun b : UInt8 => (b.toNat : Int)) = id := by
    funext b
    simp
  rw [this, List.map_id]
theorem text_back (f : Nat → Int) (len : Nat) (hl : len ≤ 1048576) (most : Int) : Back f len (textS f len most) textL (fun s => (s.size : Int) ≤ most) := by
  intro s p h1 hp h
  unfold textL at hp h
  rw [List.length_append, sL_len] at hp
  have hsz : ((s.size : Int) % 4294967296) = s.size := by omega
  rw [hsz] at hp h
  have hu := uint_back (f := f) (len := len) (p := p) (n := s.size) (by omega) (by omega) (by omega) h.left
  have hq : strOfNums (bl (fun j => f (p + (numL 4 (s.size : Int)).length + j)) s.size) = s := by
    have hbl : bl (fun j => f (p + (numL 4 (s.size : Int)).length + j)) s.size = sL s := by
      refine List.ext_getElem (by simp [bl, sL_len]) fun i h1 h2 => ?_
      have := h.right i h2
      rw [List.getD_eq_getElem?_getD, List.getElem?_eq_getElem h2] at this
      simpa [bl] using this
    rw [hbl, nums_sL]
  unfold textS textR
  rw [hu]
  simp only
  rw [if_pos ⟨h1, by omega⟩]
  simp only [Bool.not_false, if_true]
  have e1 : ((p : Int) + ((numL 4 (s.size : Int)).length : Int)).toNat = p + (numL 4 (s.size : Int)).length := by omega
  have e2 : ((s.size : Nat) : Int).toNat = s.size := by omega
  unfold tS
  simp only
  rw [e1, e2, hq]
  unfold textL
  rw [hsz, List.length_append, sL_len, Nat.add_assoc]
theorem word_backS (f : Nat → Int) (len : Nat) : Back f len (wordS f len) wdL (fun x => 0 ≤ x ∧ x ≤ 4294967295) := by
  intro x p ⟨h0, h1⟩ hl h
  have hl4 : p + 4 ≤ len := hl
  have hfit : fits len (p : Int) = true := by unfold fits; exact decide_eq_true (by omega)
  unfold wordS
  rw [hfit]
  simp only [Bool.not_false, Bool.and_self, if_true]
  have g0 : f p = byteOf x 0 := h 0 (by simp [wdL])
  have g1 : f (p + 1) = byteOf x 1 := h 1 (by simp [wdL])
  have g2 : f (p + 2) = byteOf x 2 := h 2 (by simp [wdL])
  have g3 : f (p + 3) = byteOf x 3 := h 3 (by simp [wdL])
  have e : gotW len f (p : Int) = x := by
    unfold gotW
    rw [if_pos hfit]
    unfold wordAt
    have e : tgv 256 (fun i => f ((p : Int).toNat + i)) 4 = f p + f (p + 1) * 256 + f (p + 2) * 65536 + f (p + 3) * 16777216 := by
      simp [tgv]
    rw [e, g0, g1, g2, g3]
    unfold byteOf
    rw [show (2 : Int) ^ (8 * 0) = 1 from rfl, show (2 : Int) ^ (8 * 1) = 256 from rfl, show (2 : Int) ^ (8 * 2) = 65536 from rfl, show (2 : Int) ^ (8 * 3) = 16777216 from rfl]
    omega
  rw [e]
  rfl
theorem Back.two {α β : Type} {f : Nat → Int} {len : Nat} {r1 : St → α × St} {r2 : St → β × St} {L1 : α → List Int} {L2 : β → List Int} {o1 : α → Prop} {o2 : β → Prop} (h1 : Back f len r1 L1 o1) (h2 : Back f len r2 L2 o2) : Back f len (fun s => (((r1 s).1, (r2 (r1 s).2).1), (r2 (r1 s).2).2)) (fun x => L1 x.1 ++ L2 x.2) (fun x => o1 x.1 ∧ o2 x.2) := by
  intro x p ⟨k1, k2⟩ hl h
  simp only [List.length_append] at hl ⊢
  have e1 := h1 x.1 p k1 (by omega) h.left
  have e2 := h2 x.2 (p + (L1 x.1).length) k2 (by omega) h.right
  rw [e1]
  simp only
  rw [e2, Nat.add_assoc]
theorem Back.as {α β : Type} {f : Nat → Int} {len : Nat} {r : St → α × St} {q : St → β × St} {L : α → List Int} {M : β → List Int} {ok : α → Prop} {ok' : β → Prop} (h : Back f len r L ok) (g : α → β) (hq : ∀ s, q s = (g (r s).1, (r s).2)) (hL : ∀ y, ok' y → ∃ x, ok x ∧ g x = y ∧ M y = L x) : Back f len q M ok' := by
  intro y p hy hl hh
  obtain ⟨x, h1, h2, h3⟩ := hL y hy
  rw [h3] at hl hh ⊢
  rw [hq, h x p h1 hl hh, h2]
theorem loop_back {α : Type} {f : Nat → Int} {len : Nat} {rd : St → α × St} {L : α → List Int} {ok : α → Prop} (h : Back f len rd L ok) : ∀ (xs acc : List α) (p : Nat), (∀ x ∈ xs, ok x) → p + ((xs.map L).flatten).length ≤ len → Lies f p ((xs.map L).flatten) → loopS rd xs.length acc ⟨p, false⟩ = (acc ++ xs, ⟨p + ((xs.map L).flatten).length, false⟩)
  | [], acc, p, _, _, _ => by simp [loopS]
  | x :: xs, acc, p, ha, hl, hh => by
    simp only [List.map_cons, List.flatten_cons, List.length_append] at hl hh ⊢
    rw [List.length_cons, loopS, h x p (ha x (by simp)) (by omega) hh.left]
    simp only [Bool.false_eq_true, if_false]
    rw [loop_back h xs _ _ (fun y hy => ha y (by simp [hy])) (by omega) hh.right, Nat.add_assoc]
    simp
theorem row_back {α : Type} {f : Nat → Int} {len : Nat} {rd : St → α × St} {L : α → List Int} {ok : α → Prop} (h : Back f len rd L ok) (most : Int) (hm : most ≤ 4294967295) : Back f len (rowS f len most rd) (rowL L) (fun l => (l.length : Int) ≤ most ∧ ∀ x ∈ l, ok x) := by
  intro xs p ⟨h1, h2⟩ hl hh
  unfold rowL at hl hh ⊢
  rw [List.length_append] at hl ⊢
  have e1 := num_back f len most hm (xs.length : Int) p ⟨by omega, h1⟩ (by omega) hh.left
  unfold rowS
  rw [e1]
  simp only [Int.toNat_natCast]
  rw [loop_back h xs [] _ h2 (by omega) hh.right, Nat.add_assoc]
  simp
theorem bl_lies {f : Nat → Int} {l : List Int} (h : Lies f 0 l) : bl f l.length = l := by
  refine List.ext_getElem (by simp [bl]) fun i h1 h2 => ?_
  have := h i h2
  rw [Nat.zero_add, List.getD_eq_getElem?_getD, List.getElem?_eq_getElem h2] at this
  simpa [bl] using this
theorem octP_back (f : Nat → Int) (len : Nat) (P : Int → Bool) : Back f len (octP f len P) (fun x => [x]) (fun x => P x = true) := by
  intro x p h0 hl h
  have g0 : f p = x := h 0 (by simp)
  have hlt : p < len := by simp at hl; omega
  unfold octP
  simp only [g0, decide_eq_true hlt, h0, Bool.not_false, Bool.and_self, if_true]
  rfl
theorem Back.bind {α β : Type} {f : Nat → Int} {len : Nat} {r1 : St → α × St} {r2 : α → St → β × St} {L1 : α → List Int} {L2 : α → β → List Int} {o1 : α → Prop} {o2 : α → β → Prop} (h1 : Back f len r1 L1 o1) (h2 : ∀ x, Back f len (r2 x) (L2 x) (o2 x)) : Back f len (fun s => (((r1 s).1, (r2 (r1 s).1 (r1 s).2).1), (r2 (r1 s).1 (r1 s).2).2)) (fun x => L1 x.1 ++ L2 x.1 x.2) (fun x => o1 x.1 ∧ o2 x.1 x.2) := by
  intro x p ⟨k1, k2⟩ hl h
  simp only [List.length_append] at hl ⊢
  have e1 := h1 x.1 p k1 (by omega) h.left
  have e2 := h2 x.1 x.2 (p + (L1 x.1).length) k2 (by omega) h.right
  rw [e1]
  simp only
  rw [e2, Nat.add_assoc]
/-- What may stand behind a constant's Type. -/
def tOk (t : Int) (x : Int × ByteArray) : Prop :=
  if t = 7 then x.1 = 0 ∧ (x.2.size : Int) ≤ 200 else if t = 1 then x.2 = ⟨#[]⟩ ∧ -2147483648 ≤ x.1 ∧ x.1 ≤ 2147483647 else x.2 = ⟨#[]⟩ ∧ 0 ≤ x.1 ∧ x.1 ≤ 4294967295
theorem sext_of (x : Int) (h0 : -2147483648 ≤ x) (h1 : x ≤ 2147483647) : sext (x % 4294967296) 32 = x := by
  unfold sext sx
  simp
  split <;> omega
theorem conT_back (f : Nat → Int) (len : Nat) (hl : len ≤ 1048576) (t : Int) : Back f len (conT f len t) (fun x => if t = 7 then textL x.2 else wdL (x.1 % 4294967296)) (tOk t) := by
  by_cases h7 : t = 7
  · exact Back.as (text_back f len hl 200) (fun x => ((0 : Int), x)) (fun s => by unfold conT; rw [if_pos h7]) (fun y hy => by
      unfold tOk at hy
      rw [if_pos h7] at hy
      exact ⟨y.2, hy.2, by rw [← hy.1], by rw [if_pos h7]⟩)
  · by_cases h1 : t = 1
    · exact Back.as (word_backS f len) (fun x => (sext x 32, (⟨#[]⟩ : ByteArray))) (fun s => by unfold conT; rw [if_neg h7, if_pos h1]) (fun y hy => by
        unfold tOk at hy
        rw [if_neg h7, if_pos h1] at hy
        exact ⟨y.1 % 4294967296, by constructor <;> omega, by rw [sext_of _ hy.2.1 hy.2.2, ← hy.1], by rw [if_neg h7]⟩)
    · exact Back.as (word_backS f len) (fun x => (x, (⟨#[]⟩ : ByteArray))) (fun s => by unfold conT; rw [if_neg h7, if_neg h1]) (fun y hy => by
        unfold tOk at hy
        rw [if_neg h7, if_neg h1] at hy
        exact ⟨y.1 % 4294967296, by constructor <;> omega, by rw [Int.emod_eq_of_lt hy.2.1 (by omega), ← hy.1], by rw [if_neg h7]⟩)
theorem no_bytes {s : ByteArray} (h : s.size ≤ 0) : s = ⟨#[]⟩ := by
  obtain ⟨d⟩ := s
  have h2 : d.size ≤ 0 := h
  have h3 : d = #[] := Array.eq_empty_of_size_eq_zero (by omega)
  rw [h3]
theorem cnB_ok {c : Cn} (h : cnB c = true) : (c.nm.size : Int) ≤ 20 ∧ conB c.ty = true ∧ tOk c.ty (c.n, c.s) ∧ c.ex = true := by
  have hi := cnB_in h
  unfold cnB at h
  cases hv : valB c.ty with
  | none => rw [hv] at h; cases h
  | some r =>
    obtain ⟨lo, hi2⟩ := r
    rw [hv] at h
    unfold cnsB at h
    simp only [Bool.and_eq_true, decide_eq_true_eq] at h
    obtain ⟨h1, h2, h3, h4, _⟩ := h
    refine ⟨by omega, by unfold conB; rw [hv]; rfl, ?_, h4⟩
    unfold tOk
    unfold valB at hv
    split at hv
    · rename_i e; injection hv with hv; injection hv with e1 e2
      rw [if_neg (by omega)] at h3 ⊢
      rw [if_pos e]
      exact ⟨no_bytes (s := c.s) (by omega), by simp only; omega, by simp only; omega⟩
    · split at hv
      · rename_i e0 e; injection hv with hv; injection hv with e1 e2
        rw [if_neg (by omega)] at h3 ⊢
        rw [if_neg (by omega)]
        exact ⟨no_bytes (s := c.s) (by omega), by simp only; omega, by simp only; omega⟩
      · split at hv
        · rename_i e; injection hv with hv; injection hv with e1 e2
          rw [if_neg (by omega)] at h3 ⊢
          rw [if_neg (by omega)]
          exact ⟨no_bytes (s := c.s) (by omega), by simp only; omega, by simp only; omega⟩
        · split at hv
          · rename_i e; injection hv with hv; injection hv with e1 e2
            rw [if_neg (by omega)] at h3 ⊢
            rw [if_neg (by omega)]
            exact ⟨no_bytes (s := c.s) (by omega), by simp only; omega, by simp only; omega⟩
          · split at hv
            · rename_i e; injection hv with hv; injection hv with e1 e2
              rw [if_pos e] at h3 ⊢
              exact ⟨by simp only; omega, by simp only; omega⟩
            · cases hv
section
variable (f : Nat → Int) (len : Nat)
theorem con_back (hl : len ≤ 1048576) : Back f len (conS f len) consL (fun c => cnB c = true) :=
  Back.as (Back.two (text_back f len hl 20) (Back.bind (octP_back f len conB) (conT_back f len hl))) (fun x => ⟨x.1, x.2.1, x.2.2.1, x.2.2.2, true⟩) (fun s => by
    unfold conS conT
    simp only
    split
    · rfl
    · split <;> rfl) (fun y hy => by
    obtain ⟨h1, h2, h3, h4⟩ := cnB_ok hy
    refine ⟨(y.nm, y.ty, y.n, y.s), ⟨h1, h2, h3⟩, ?_, ?_⟩
    · obtain ⟨a, b, c, d, e⟩ := y
      simp only at h4
      rw [h4]
    · unfold consL
      simp only [List.append_assoc])
theorem var_back (hl : len ≤ 1048576) : Back f len (varS f len) varL (fun v => varB v = true) :=
  Back.as (Back.two (text_back f len hl 20) (Back.two (octP_back f len plainB) (num_back f len 4294967295 (by omega)))) (fun x => ⟨x.1, x.2.1, x.2.2, false, false⟩) (fun s => rfl) (fun y hy => by
    have hi := varB_in hy
    unfold varB at hy
    simp only [Bool.and_eq_true, Bool.not_eq_true'] at hy
    obtain ⟨h1, _, _, h4, h5, _⟩ := hy
    refine ⟨(y.nm, y.fm, y.ln), ⟨by show (y.nm.size : Int) ≤ 20; omega, h1, by show 0 ≤ y.ln; omega, by show y.ln ≤ 4294967295; omega⟩, ?_, ?_⟩
    · obtain ⟨a, b, c, d, e⟩ := y
      simp only at h4 h5
      rw [h4, h5]
    · unfold varL
      simp only [List.append_assoc])
theorem par_back : Back f len (parS f len) parL (fun v => parB v = true) :=
  Back.as (Back.two (octP_back f len plainB) (octP_back f len bitB)) (fun x => ⟨⟨#[]⟩, x.1, 0, decide (x.2 = 1 ∨ x.2 = 3), decide (x.2 = 2 ∨ x.2 = 3)⟩) (fun s => rfl) (fun y hy => by
    unfold parB at hy
    simp only [Bool.and_eq_true, decide_eq_true_eq] at hy
    obtain ⟨h1, h2, h3⟩ := hy
    obtain ⟨nm, fm, ln, op, rf⟩ := y
    simp only at h1 h2 h3
    have hn : nm = ⟨#[]⟩ := by
      have h4 : nm.toList = [] := by simpa using h3
      rw [Lib.toList_data] at h4
      exact no_bytes (by rw [Lib.size_eq, h4]; simp)
    subst hn h2
    refine ⟨(fm, bitsI ⟨⟨#[]⟩, fm, 0, op, rf⟩), ⟨h1, ?_⟩, ?_, rfl⟩
    · cases op <;> cases rf <;> rfl
    · cases op <;> cases rf <;> rfl)
theorem pc_back (hl : len ≤ 1048576) : Back f len (pcS f len) prcP (fun p => prcB p = true) :=
  Back.as (Back.two (text_back f len hl 20) (Back.two (row_back (par_back f len) 8 (by omega)) (octP_back f len resB))) (fun x => ⟨x.1, x.2.1, x.2.2⟩) (fun s => rfl) (fun y hy => by
    have hi := prcB_in hy
    unfold prcB at hy
    simp only [Bool.and_eq_true, decide_eq_true_eq] at hy
    obtain ⟨⟨h1, h2⟩, h3, h4⟩ := hy
    exact ⟨(y.nm, y.ps, y.rs), ⟨by show (y.nm.size : Int) ≤ 20; omega, ⟨h1, fun v hv => List.all_eq_true.1 h2 v hv⟩, h3⟩, rfl, rfl⟩)
theorem sym_back (hl : len ≤ 1048576) : Back f len (symS f len) symP (fun o => rightP o = true) :=
  Back.as (Back.two (text_back f len hl 20) (Back.two (row_back (con_back f len hl) 200 (by omega)) (Back.two (row_back (var_back f len hl) 200 (by omega)) (row_back (pc_back f len hl) 100 (by omega)))))
    (fun x => ⟨x.1, x.2.1, x.2.2.1, x.2.2.2⟩) (fun s => rfl) (fun o h => by
      have hi := in_right h
      unfold rightP rightS at h
      simp only [Bool.and_eq_true, decide_eq_true_eq, List.length_map] at h
      obtain ⟨h1, ⟨h2, h3⟩, ⟨h4, h5⟩, ⟨h6, h7⟩, _⟩ := h
      have := hi.nm
      refine ⟨(o.nm, o.cs, o.vs, o.ps), ⟨by show (o.nm.size : Int) ≤ 20; omega, ⟨h2, fun x hx => List.all_eq_true.1 h3 x hx⟩, ⟨h4, fun x hx => List.all_eq_true.1 h5 x hx⟩, ⟨h6, fun x hx => ?_⟩⟩, rfl, rfl⟩
      exact List.all_eq_true.1 h7 (x, ⟨none, 0, 0⟩) (List.mem_map.2 ⟨x, hx, rfl⟩))
end
theorem mark_nums : strOfNums markL = markY := by kernel_rfl
theorem flat_le {α : Type} (L : α → List Int) (K : Nat) (l : List α) (h : ∀ x ∈ l, (L x).length ≤ K) : ((l.map L).flatten).length ≤ K * l.length := by
  have := sumL_le L K l h l.length (Nat.le_refl _)
  unfold sumL at this
  rwa [List.take_length] at this
theorem rowL_le {α : Type} (L : α → List Int) (K : Nat) (l : List α) (h : ∀ x ∈ l, (L x).length ≤ K) : (rowL L l).length ≤ 5 + K * l.length := by
  unfold rowL
  rw [List.length_append]
  have := flat_le L K l h
  have := numL_len 4 (l.length : Int)
  omega
theorem symP_le {o : Sy} (h : rightP o = true) : (symP o).length ≤ 100000 := by
  have hi := in_right h
  have h1 := rowL_le consL 250 o.cs (fun x hx => consL_le x (hi.cs x hx).1 (hi.cs x hx).2.1)
  have h2 := rowL_le varL 50 o.vs (fun x hx => varL_le x (hi.vs x hx).1)
  have h3 := rowL_le prcP 60 o.ps (fun x hx => by rw [← prcL_P (x, ⟨none, 0, 0⟩)]; exact prcL_le (x, ⟨none, 0, 0⟩) (hi.ps x hx).1 (hi.ps x hx).2.1)
  have h4 := textL_len o.nm
  have := hi.nm
  have := hi.cl
  have := hi.vl
  have := hi.pl
  unfold symP
  rw [List.length_append, List.length_append, List.length_append]
  omega
theorem sym_read {f : Nat → Int} {e : Nat} {o : Sy} (hr : rightP o = true) (h : Lies f 0 (markL ++ symP o)) (he : 4 + (symP o).length ≤ e) (he2 : e ≤ 1048576) : strOfNums (bl f 4) = markY ∧ symS f e ⟨4, false⟩ = (o, ⟨4 + (symP o).length, false⟩) := by
  refine ⟨?_, ?_⟩
  · have := bl_lies h.left
    rw [show markL.length = 4 from rfl] at this
    rw [this, mark_nums]
  · have hb := h.right
    rw [show 0 + markL.length = 4 from rfl] at hb
    exact sym_back f e he2 o 4 hr he hb
theorem dec_of {f : Nat → Int} {o : Sy} (hr : rightP o = true) (h : Lies f 0 (markL ++ symP o)) : decS f (4 + (symP o).length) = (0, 0) ∧ (symS f (4 + (symP o).length) ⟨4, false⟩).1 = o := by
  have hl := symP_le hr
  obtain ⟨h1, h2⟩ := sym_read hr h (Nat.le_refl _) (by omega)
  refine ⟨?_, by rw [h2]⟩
  unfold decS
  rw [if_pos ⟨by omega, by omega, h1⟩, h2]
  simp only
  rw [if_neg (by simp), if_pos hr]
theorem dec_more {f : Nat → Int} {o : Sy} {len : Nat} (hr : rightP o = true) (h : Lies f 0 (markL ++ symP o)) (hlen : 4 + (symP o).length < len) : (decS f len).2 ≠ 0 := by
  unfold decS
  split
  · rename_i h1
    obtain ⟨_, h2⟩ := sym_read (e := len) hr h (by omega) h1.1
    rw [h2]
    simp only
    rw [if_pos (Or.inr (by omega))]
    simp
  · simp
theorem bl_is_lies {f : Nat → Int} {l : List Int} {n : Nat} (h : l = bl f n) : Lies f 0 l := by
  subst h
  intro j hj
  have hj2 : j < n := by simpa [bl] using hj
  rw [Nat.zero_add]
  simp [bl, List.getD, hj2]
theorem dec_less {f : Nat → Int} {o : Sy} {cut : Nat} (hr : rightP o = true) (hf : Oct f (4 + (symP o).length)) (h : Lies f 0 (markL ++ symP o)) (hlen : cut < 4 + (symP o).length) : (decS f cut).2 ≠ 0 := by
  intro hd
  obtain ⟨_, _, _, _, _, g6, _⟩ := dec_good hd
  have h1 := dec_form (fun i hi => hf i (by omega)) hd
  have h2 := bl_is_lies h1
  have hc : 4 + (symP (symS f cut ⟨4, false⟩).1).length = cut := by
    have := congrArg List.length h1
    rw [List.length_append, show markL.length = 4 from rfl] at this
    rw [this]; simp [bl]
  have h3 := dec_more (len := 4 + (symP o).length) g6 h2 (by omega)
  exact h3 (by rw [(dec_of hr h).1])
end Go.Proofs.YtcppgpcgbggdcaaDoor
