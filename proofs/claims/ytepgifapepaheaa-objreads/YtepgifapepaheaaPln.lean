/-
  Layer 7, plain: what is written of an object; what is read of bytes, written again, is these bytes.
-/
import Derived.Test.YtepgifapepaheaaRobj
import Derived.Test.YtepgifapepaheaaWwd
namespace Go.Proofs.Ytepgifapepaheaa
set_option linter.unusedVariables false
set_option linter.unusedSimpArgs false

/-- The n bytes from a place on. -/
def seg (f : Nat → Int) (p n : Nat) : List Int := (List.range n).map fun j => f (p + j)
theorem seg_len (f : Nat → Int) (p n : Nat) : (seg f p n).length = n := by simp [seg]
theorem seg_app (f : Nat → Int) (p a b : Nat) : seg f p (a + b) = seg f p a ++ seg f (p + a) b := by
  unfold seg
  rw [List.range_add, List.map_append, List.map_map]
  congr 1
  exact List.map_congr_left fun j _ => by simp [Nat.add_assoc]
def Oct (f : Nat → Int) (len : Nat) : Prop := ∀ i, i < len → 0 ≤ f i ∧ f i ≤ 255
theorem rdU_form (g : Nat → Int) (avail : Nat) (hg : ∀ i, i < avail → 0 ≤ g i ∧ g i ≤ 255) : ∀ (k i : Nat) (acc n : Int) (j : Nat), rdU g avail (k + 1) i acc = some (n, j) → ∃ (m : Int) (d : Nat), j = i + d ∧ j ≤ avail ∧ 0 ≤ m ∧ (0 < i → 1 ≤ m) ∧ n = acc + m * 128 ^ i ∧ numL k m = (List.range d).map fun t => g (i + t)
  | k, i, acc, n, j, h => by
    rw [rdU] at h
    split at h
    · cases h
    rename_i hav
    have hgi := hg i (by omega)
    split at h
    · rename_i hbig
      cases k with
      | zero => cases h
      | succ k =>
        obtain ⟨m, d, e1, e2, e3, e4, e5, e6⟩ := rdU_form g avail hg k (i + 1) _ n j h
        have e4' := e4 (by omega)
        refine ⟨g i % 128 + 128 * m, d + 1, by omega, e2, by omega, fun _ => by omega, ?_, ?_⟩
        · rw [e5, Int.pow_succ, Int.add_mul, Int.mul_assoc, Int.mul_comm 128 (m * 128 ^ i), Int.mul_assoc, Int.add_assoc]
        · rw [numL_big k _ (by omega), show (g i % 128 + 128 * m) % 128 + 128 = g i by omega, show (g i % 128 + 128 * m) / 128 = m by omega, e6, List.range_succ_eq_map, List.map_cons, List.map_map]
          congr 1
          exact List.map_congr_left fun t _ => by simp [Nat.add_assoc, Nat.add_comm 1]
    · rename_i hs
      split at h
      · cases h
      · rename_i hc
        injection h with h
        injection h with h1 h2
        have hm : g i % 128 = g i := by omega
        refine ⟨g i, 1, by omega, by omega, by omega, fun hi => ?_, by rw [← h1, hm], ?_⟩
        · have := fun e => hc (.inr ⟨e, hi⟩)
          omega
        · rw [numL_small k _ (by omega)]; simp
theorem uintR_form {f : Nat → Int} {len : Nat} (hf : Oct f len) {p : Nat} {n : Int} {i : Nat} (h : uintR f len p = some (n, i)) : numL 4 n = seg f p i := by
  unfold uintR at h
  split at h
  · rename_i hp
    obtain ⟨m, d, e1, e2, e3, e4, e5, e6⟩ := rdU_form _ _ (fun t ht => hf _ (by omega)) 4 0 0 n i h
    simp only [Int.toNat_natCast, Nat.zero_add] at e6 e1
    subst e1
    rw [show n = m by rw [e5]; simp, e6]
    rfl
  · cases h
/-- What is read, where it isn't stuck, is what is written. -/
def Form {α : Type} (f : Nat → Int) (len : Nat) (rd : St → α × St) (L : α → List Int) : Prop := ∀ s, (rd s).2.st = false → s.st = false ∧ (s.p ≤ len → ∃ k, (rd s).2.p = s.p + k ∧ s.p + k ≤ len ∧ L (rd s).1 = seg f s.p k)
theorem num_form {f : Nat → Int} {len : Nat} (hf : Oct f len) (most : Int) : Form f len (numS f len most) (numL 4) := by
  intro s h
  unfold numS at h ⊢
  cases hu : uintR f len s.p with
  | none => rw [hu] at h; cases h
  | some r =>
    obtain ⟨n, i⟩ := r
    rw [hu] at h
    have hb := uintR_bd hu
    simp only at h ⊢
    split at h
    · rename_i hc
      rw [if_pos hc]
      simp only [Bool.and_eq_true, Bool.not_eq_true'] at hc
      exact ⟨hc.1, fun hp => ⟨i, rfl, by omega, uintR_form hf hu⟩⟩
    · cases h
theorem sL_nums (l : List Int) (h : ∀ x ∈ l, 0 ≤ x ∧ x ≤ 255) : sL (strOfNums l) = l := by
  unfold sL
  rw [strOfNums_data, List.map_map]
  conv => rhs; rw [← List.map_id l]
  refine List.map_congr_left fun x hx => ?_
  have := h x hx
  simp only [Function.comp, id]
  rw [show (UInt8.ofNat x.toNat).toNat = x.toNat % 256 from rfl]
  omega
theorem text_form {f : Nat → Int} {len : Nat} (hf : Oct f len) (hl : len ≤ 1048576) (most : Int) : Form f len (textS f len most) textL := by
  intro s h
  unfold textS at h ⊢
  cases ht : textR f len s.p most with
  | none => rw [ht] at h; cases h
  | some r =>
    obtain ⟨q, m⟩ := r
    rw [ht] at h
    simp only at h ⊢
    split at h
    · rename_i hc
      rw [if_pos hc]
      simp only [Bool.not_eq_true'] at hc
      unfold textR at ht
      cases hu : uintR f len s.p with
      | none => rw [hu] at ht; cases ht
      | some r =>
        obtain ⟨n, i⟩ := r
        have hb := uintR_bd hu
        rw [hu] at ht
        simp only at ht
        split at ht
        · rename_i hh
          injection ht with ht
          injection ht with e1 e2
          subst e1 e2
          refine ⟨hc, fun hp => ⟨i + n.toNat, by show (↑s.p + ↑i : Int).toNat + n.toNat = _; omega, by omega, ?_⟩⟩
          have hq : (↑s.p + ↑i : Int).toNat = s.p + i := by omega
          rw [hq]
          unfold textL tS
          simp only
          rw [strOfNums_size, bl_len, sL_nums _ (fun x hx => by
            obtain ⟨j, hj, rfl⟩ := List.mem_map.1 hx
            have := List.mem_range.1 hj
            exact hf _ (by omega)), show ((n.toNat : Nat) : Int) % 4294967296 = n by omega, uintR_form hf hu, seg_app]
          rfl
        · cases ht
    · cases h
theorem word_back {f : Nat → Int} {len : Nat} (hf : Oct f len) (p : Nat) (h : p + 4 ≤ len) : wdL (gotW len f p) = seg f p 4 := by
  have hfit : fits len (p : Int) = true := by unfold fits; exact decide_eq_true (by omega)
  unfold gotW
  rw [if_pos hfit]
  unfold wordAt wdL seg
  have h0 := hf p (by omega)
  have h1 := hf (p + 1) (by omega)
  have h2 := hf (p + 2) (by omega)
  have h3 := hf (p + 3) (by omega)
  have e : tgv 256 (fun i => f ((p : Int).toNat + i)) 4 = f p + f (p + 1) * 256 + f (p + 2) * 65536 + f (p + 3) * 16777216 := by
    simp [tgv]
  rw [e]
  have r : List.range 4 = [0, 1, 2, 3] := rfl
  rw [r]
  simp only [List.map_cons, List.map_nil, byteOf, Nat.add_zero]
  refine congr (congrArg List.cons ?_) (congr (congrArg List.cons ?_) (congr (congrArg List.cons ?_) (congr (congrArg List.cons ?_) rfl)))
  · rw [show (2 : Int) ^ (8 * 0) = 1 from rfl]; omega
  · rw [show (2 : Int) ^ (8 * 1) = 256 from rfl]; omega
  · rw [show (2 : Int) ^ (8 * 2) = 65536 from rfl]; omega
  · rw [show (2 : Int) ^ (8 * 3) = 16777216 from rfl]; omega
theorem word_form {f : Nat → Int} {len : Nat} (hf : Oct f len) : Form f len (wordS f len) wdL := by
  intro s h
  unfold wordS at h ⊢
  split at h
  · rename_i hc
    rw [if_pos hc]
    simp only [Bool.and_eq_true, Bool.not_eq_true'] at hc
    have hq : s.p + 4 ≤ len := by have := hc.2; unfold fits at this; have := of_decide_eq_true this; omega
    exact ⟨hc.1, fun hp => ⟨4, rfl, hq, word_back hf s.p hq⟩⟩
  · cases h
theorem oct_form {f : Nat → Int} {len : Nat} (most : Int) : Form f len (octS f len most) (fun x => [x]) := by
  intro s h
  unfold octS at h ⊢
  split at h
  · rename_i hc
    rw [if_pos hc]
    simp only [Bool.and_eq_true, Bool.not_eq_true', decide_eq_true_eq] at hc
    exact ⟨hc.1, fun hp => ⟨1, rfl, by omega, by simp [seg]⟩⟩
  · cases h
/-- One thing behind another. -/
theorem Form.two {α β : Type} {f : Nat → Int} {len : Nat} {r1 : St → α × St} {r2 : St → β × St} {L1 : α → List Int} {L2 : β → List Int} (h1 : Form f len r1 L1) (h2 : Form f len r2 L2) : Form f len (fun s => (((r1 s).1, (r2 (r1 s).2).1), (r2 (r1 s).2).2)) (fun x => L1 x.1 ++ L2 x.2) := by
  intro s h
  simp only at h ⊢
  obtain ⟨a2, b2⟩ := h2 (r1 s).2 h
  obtain ⟨a1, b1⟩ := h1 s a2
  refine ⟨a1, fun hp => ?_⟩
  obtain ⟨k1, e1, e2, e3⟩ := b1 hp
  obtain ⟨k2, e4, e5, e6⟩ := b2 (by omega)
  exact ⟨k1 + k2, by omega, by omega, by rw [e3, e6, e1, seg_app]⟩
/-- The same, read as something else. -/
theorem Form.as {α β : Type} {f : Nat → Int} {len : Nat} {r : St → α × St} {q : St → β × St} {L : α → List Int} {M : β → List Int} (h : Form f len r L) (g : α → β) (hq : ∀ s, q s = (g (r s).1, (r s).2)) (hL : ∀ s, (r s).2.st = false → M (g (r s).1) = L (r s).1) : Form f len q M := by
  intro s hs
  rw [hq] at hs ⊢
  obtain ⟨a, b⟩ := h s hs
  refine ⟨a, fun hp => ?_⟩
  obtain ⟨k, e1, e2, e3⟩ := b hp
  exact ⟨k, e1, e2, by rw [hL s hs]; exact e3⟩
theorem loop_form {α : Type} {f : Nat → Int} {len : Nat} {rd : St → α × St} {L : α → List Int} (h : Form f len rd L) : ∀ (n : Nat) (acc : List α) (s : St), (loopS rd n acc s).2.st = false → s.st = false ∧ ∃ xs : List α, (loopS rd n acc s).1 = acc ++ xs ∧ xs.length = n ∧ (s.p ≤ len → ∃ k, (loopS rd n acc s).2.p = s.p + k ∧ s.p + k ≤ len ∧ (xs.map L).flatten = seg f s.p k)
  | 0, acc, s, hs => ⟨hs, [], by simp [loopS], rfl, fun hp => ⟨0, by simp [loopS], by omega, by simp [seg]⟩⟩
  | n + 1, acc, s, hs => by
    rw [loopS] at hs ⊢
    cases hst : (rd s).2.st
    · rw [hst] at hs
      simp only [Bool.false_eq_true, if_false] at hs ⊢
      obtain ⟨_, xs, e1, e2, e3⟩ := loop_form h n _ _ hs
      obtain ⟨a, b⟩ := h s hst
      refine ⟨a, (rd s).1 :: xs, by rw [e1]; simp, by simp [e2], fun hp => ?_⟩
      obtain ⟨k1, f1, f2, f3⟩ := b hp
      obtain ⟨k2, f4, f5, f6⟩ := e3 (by omega)
      exact ⟨k1 + k2, by omega, by omega, by rw [List.map_cons, List.flatten_cons, f3, f6, f1, seg_app]⟩
    · rw [hst] at hs
      simp only [if_true] at hs
      rw [hst] at hs; cases hs
/-- A row as bytes. -/
def rowL {α : Type} (L : α → List Int) (l : List α) : List Int := numL 4 (l.length : Int) ++ (l.map L).flatten
theorem row_form {α : Type} {f : Nat → Int} {len : Nat} (hf : Oct f len) {rd : St → α × St} {L : α → List Int} (h : Form f len rd L) (most : Int) (m0 : 0 ≤ most) : Form f len (rowS f len most rd) (rowL L) := by
  intro s hs
  unfold rowS at hs ⊢
  have hb := numS_bd f len most s m0
  obtain ⟨a2, xs, e1, e2, e3⟩ := loop_form h _ _ _ hs
  obtain ⟨a1, b1⟩ := num_form hf most s a2
  have hnn : (((numS f len most s).1.toNat : Nat) : Int) = (numS f len most s).1 := Int.toNat_of_nonneg hb.1
  refine ⟨a1, fun hp => ?_⟩
  obtain ⟨k1, f1, f2, f3⟩ := b1 hp
  obtain ⟨k2, f4, f5, f6⟩ := e3 (by omega)
  refine ⟨k1 + k2, by omega, by omega, ?_⟩
  rw [e1, List.nil_append]
  unfold rowL
  rw [e2, hnn, f3, f6, f1, seg_app]
def impL (x : ByteArray × Int) : List Int := textL x.1 ++ wdL x.2
def prcL (x : Int × ByteArray × Bool) : List Int := numL 4 x.1 ++ (textL x.2.1 ++ [if x.2.2 then 1 else 0])
def dscL (x : Int × Int × List Int) : List Int := numL 4 x.1 ++ (numL 4 x.2.1 ++ rowL (numL 4) x.2.2)
def fixL (x : Int × Int × Int × Int) : List Int := numL 4 x.1 ++ ([x.2.1] ++ (numL 4 (x.2.2.1 + 1) ++ numL 4 x.2.2.2))
/-- An object's procedures, each with its name and mark. -/
def prcsOf (o : Ob) : List (Int × ByteArray × Bool) := (List.range o.procs.length).map fun i => (o.procs.getD i 0, o.names.getD i ⟨#[]⟩, o.exps.getD i false)
def bodyL (o : Ob) : List Int := textL o.name ++ (wdL o.key ++ (rowL impL o.imps ++ (rowL wdL o.code ++ (rowL prcL (prcsOf o) ++ (numL 4 o.ini ++ (rowL (numL 4) o.vars ++ (rowL (numL 4) o.shown ++ (rowL textL o.strs ++ (rowL dscL o.descs ++ rowL fixL o.fixes)))))))))
theorem prcs_back (l : List (Int × ByteArray × Bool)) (nm : ByteArray) (key : Int) (im : List (ByteArray × Int)) (co : List Int) (ini : Int) (va sh : List Int) (st : List ByteArray) (ds : List (Int × Int × List Int)) (fx : List (Int × Int × Int × Int)) : prcsOf ⟨nm, key, im, co, l.map (·.1), l.map (·.2.1), l.map (·.2.2), ini, va, sh, st, ds, fx⟩ = l := by
  unfold prcsOf
  refine List.ext_getElem (by simp) fun i h1 h2 => ?_
  simp only [List.getElem_map, List.getElem_range, List.getD_eq_getElem?_getD, List.getElem?_map, List.getElem?_eq_getElem h2]
  rfl
section
variable {f : Nat → Int} {len : Nat} (hf : Oct f len)
include hf
theorem imp_form (hl : len ≤ 1048576) : Form f len (impS f len) impL := Form.as (Form.two (text_form hf hl 20) (word_form hf)) id (fun s => rfl) (fun s _ => rfl)
theorem prc_form (hl : len ≤ 1048576) : Form f len (prcS f len) prcL :=
  Form.as (Form.two (num_form hf 4294967295) (Form.two (text_form hf hl 20) (oct_form (f := f) (len := len) 1))) (fun x => (x.1, x.2.1, x.2.2 == 1)) (fun s => rfl) (fun s hs => by
    have hb : (octS f len 1 (textS f len 20 (numS f len 4294967295 s).2).2).1 = 0 ∨ (octS f len 1 (textS f len 20 (numS f len 4294967295 s).2).2).1 = 1 := by
      unfold octS
      split
      · rename_i hc
        simp only [Bool.and_eq_true, decide_eq_true_eq] at hc
        have := hf _ hc.2.1
        simp only
        omega
      · exact .inl rfl
    unfold prcL
    simp only
    rcases hb with e | e <;> rw [e] <;> rfl)
theorem dsc_form : Form f len (dscS f len) dscL :=
  Form.as (Form.two (num_form hf 4294967295) (Form.two (num_form hf 4294967295) (row_form hf (num_form hf 4294967295) 4 (by omega)))) id (fun s => rfl) (fun s _ => rfl)
theorem fix_form : Form f len (fixS f len) fixL :=
  Form.as (Form.two (num_form hf 4294967295) (Form.two (oct_form (f := f) (len := len) 255) (Form.two (num_form hf 16) (num_form hf 4294967295)))) (fun x => (x.1, x.2.1, x.2.2.1 - 1, x.2.2.2)) (fun s => rfl) (fun s _ => by
    unfold fixL
    simp only
    rw [Int.sub_add_cancel])
/-- What is read as an object is what is written of it. -/
theorem obj_form (hl : len ≤ 1048576) : Form f len (objS f len) bodyL :=
  Form.as (Form.two (text_form hf hl 20) (Form.two (word_form hf) (Form.two (row_form hf (imp_form hf hl) 16 (by omega)) (Form.two (row_form hf (word_form hf) 65536 (by omega)) (Form.two (row_form hf (prc_form hf hl) 100 (by omega)) (Form.two (num_form hf 4294967295) (Form.two (row_form hf (num_form hf 4294967295) 200 (by omega)) (Form.two (row_form hf (num_form hf 4294967295) 200 (by omega)) (Form.two (row_form hf (text_form hf hl 200) 200 (by omega)) (Form.two (row_form hf (dsc_form hf) 200 (by omega)) (row_form hf (fix_form hf) 65536 (by omega))))))))))))
    (fun x => ⟨x.1, x.2.1, x.2.2.1, x.2.2.2.1, x.2.2.2.2.1.map (·.1), x.2.2.2.2.1.map (·.2.1), x.2.2.2.2.1.map (·.2.2), x.2.2.2.2.2.1, x.2.2.2.2.2.2.1, x.2.2.2.2.2.2.2.1, x.2.2.2.2.2.2.2.2.1, x.2.2.2.2.2.2.2.2.2.1, x.2.2.2.2.2.2.2.2.2.2⟩) (fun s => rfl) (fun s _ => by
      unfold bodyL
      simp only
      rw [prcs_back])
end
/-- What is so of each thing that is read. -/
def Has {α : Type} (rd : St → α × St) (P : α → Prop) : Prop := ∀ s, (rd s).2.st = false → P (rd s).1
theorem loop_has {α : Type} {rd : St → α × St} {P : α → Prop} (h : Has rd P) : ∀ (n : Nat) (acc : List α) (s : St), (∀ x ∈ acc, P x) → (loopS rd n acc s).2.st = false → (∀ x ∈ (loopS rd n acc s).1, P x) ∧ (loopS rd n acc s).1.length = acc.length + n
  | 0, acc, s, ha, hs => ⟨by rw [loopS]; exact ha, by simp [loopS]⟩
  | n + 1, acc, s, ha, hs => by
    rw [loopS] at hs ⊢
    cases hst : (rd s).2.st
    · rw [hst] at hs
      simp only [Bool.false_eq_true, if_false] at hs ⊢
      have := loop_has h n (acc ++ [(rd s).1]) (rd s).2 (fun x hx => by
        rcases List.mem_append.1 hx with h1 | h1
        · exact ha x h1
        · rw [List.mem_singleton.1 h1]; exact h s hst) hs
      refine ⟨this.1, by rw [this.2, List.length_append]; simp; omega⟩
    · rw [hst] at hs
      simp only [if_true] at hs
      rw [hst] at hs; cases hs
theorem row_has {α : Type} {f : Nat → Int} {len : Nat} {rd : St → α × St} {P : α → Prop} (h : Has rd P) (most : Int) (m0 : 0 ≤ most) : Has (rowS f len most rd) (fun l => (l.length : Int) ≤ most ∧ ∀ x ∈ l, P x) := by
  intro s hs
  unfold rowS at hs ⊢
  have hb := numS_bd f len most s m0
  have := loop_has h _ [] _ (fun x hx => by cases hx) hs
  refine ⟨?_, this.1⟩
  have h2 := this.2
  rw [List.length_nil] at h2
  have hnn : (((numS f len most s).1.toNat : Nat) : Int) = (numS f len most s).1 := Int.toNat_of_nonneg hb.1
  rw [h2]
  omega
theorem num_has (f : Nat → Int) (len : Nat) (most : Int) (m0 : 0 ≤ most) : Has (numS f len most) (fun n => 0 ≤ n ∧ n ≤ most) := fun s _ => numS_bd f len most s m0
theorem text_has (f : Nat → Int) (len : Nat) (most : Int) (m0 : 0 ≤ most) : Has (textS f len most) (fun t => (t.size : Int) ≤ most) := by
  intro s hs
  unfold textS at hs ⊢
  cases ht : textR f len s.p most with
  | none => rw [ht] at hs; cases hs
  | some r =>
    obtain ⟨q, m⟩ := r
    simp only
    split
    · unfold textR at ht
      cases hu : uintR f len s.p with
      | none => rw [hu] at ht; cases ht
      | some r =>
        obtain ⟨n, i⟩ := r
        have hb := uintR_bd hu
        rw [hu] at ht
        simp only at ht
        split at ht
        · rename_i hh
          injection ht with ht
          injection ht with e1 e2
          unfold tS
          simp only
          rw [strOfNums_size, bl_len]
          omega
        · cases ht
    · exact m0
/-- What the writer asks of an object. -/
structure Fine (o : Ob) : Prop where
  nm : o.name.size ≤ 1000
  im : o.imps.length ≤ 65536 ∧ ∀ x ∈ o.imps, x.1.size ≤ 1000
  co : o.code.length ≤ 65536
  pr : o.procs.length ≤ 65536 ∧ ∀ x ∈ o.procs, 0 ≤ x ∧ x ≤ 4294967295
  na : o.names.length = o.procs.length ∧ ∀ x ∈ o.names, x.size ≤ 1000
  ex : o.exps.length = o.procs.length
  ini : 0 ≤ o.ini ∧ o.ini ≤ 4294967295
  va : o.vars.length ≤ 65536 ∧ ∀ x ∈ o.vars, 0 ≤ x ∧ x ≤ 4294967295
  sh : o.shown.length ≤ 65536 ∧ ∀ x ∈ o.shown, 0 ≤ x ∧ x ≤ 4294967295
  st : o.strs.length ≤ 65536 ∧ ∀ x ∈ o.strs, x.size ≤ 1000
  ds : o.descs.length ≤ 65536 ∧ ∀ x ∈ o.descs, (0 ≤ x.1 ∧ x.1 ≤ 4294967295) ∧ (0 ≤ x.2.1 ∧ x.2.1 ≤ 4294967295) ∧ x.2.2.length ≤ 65536 ∧ ∀ t ∈ x.2.2, 0 ≤ t ∧ t ≤ 4294967295
  fx : o.fixes.length ≤ 65536 ∧ ∀ x ∈ o.fixes, (0 ≤ x.1 ∧ x.1 ≤ 4294967295) ∧ (0 ≤ x.2.1 ∧ x.2.1 ≤ 255) ∧ (-1 ≤ x.2.2.1 ∧ x.2.2.1 ≤ 4294967294) ∧ (0 ≤ x.2.2.2 ∧ x.2.2.2 ≤ 4294967295)
theorem fine_read {f : Nat → Int} {len : Nat} (hf : Oct f len) (hl : len ≤ 1048576) (s : St) (hs : (objS f len s).2.st = false) : Fine (objS f len s).1 := by
  unfold objS at hs ⊢
  simp only at hs ⊢
  generalize e0 : textS f len 20 s = x0 at *
  generalize e1 : wordS f len x0.2 = x1 at *
  generalize e2 : rowS f len 16 (impS f len) x1.2 = x2 at *
  generalize e3 : rowS f len 65536 (wordS f len) x2.2 = x3 at *
  generalize e4 : rowS f len 100 (prcS f len) x3.2 = x4 at *
  generalize e5 : numS f len 4294967295 x4.2 = x5 at *
  generalize e6 : rowS f len 200 (numS f len 4294967295) x5.2 = x6 at *
  generalize e7 : rowS f len 200 (numS f len 4294967295) x6.2 = x7 at *
  generalize e8 : rowS f len 200 (textS f len 200) x7.2 = x8 at *
  generalize e9 : rowS f len 200 (dscS f len) x8.2 = x9 at *
  generalize e10 : rowS f len 65536 (fixS f len) x9.2 = x10 at *
  have s9 : x9.2.st = false := by rw [← e10] at hs; exact (row_form hf (fix_form hf) 65536 (by omega) _ hs).1
  have s8 : x8.2.st = false := by rw [← e9] at s9; exact (row_form hf (dsc_form hf) 200 (by omega) _ s9).1
  have s7 : x7.2.st = false := by rw [← e8] at s8; exact (row_form hf (text_form hf hl 200) 200 (by omega) _ s8).1
  have s6 : x6.2.st = false := by rw [← e7] at s7; exact (row_form hf (num_form hf 4294967295) 200 (by omega) _ s7).1
  have s5 : x5.2.st = false := by rw [← e6] at s6; exact (row_form hf (num_form hf 4294967295) 200 (by omega) _ s6).1
  have s4 : x4.2.st = false := by rw [← e5] at s5; exact (num_form hf 4294967295 _ s5).1
  have s3 : x3.2.st = false := by rw [← e4] at s4; exact (row_form hf (prc_form hf hl) 100 (by omega) _ s4).1
  have s2 : x2.2.st = false := by rw [← e3] at s3; exact (row_form hf (word_form hf) 65536 (by omega) _ s3).1
  have s1 : x1.2.st = false := by rw [← e2] at s2; exact (row_form hf (imp_form hf hl) 16 (by omega) _ s2).1
  have s0 : x0.2.st = false := by rw [← e1] at s1; exact (word_form hf _ s1).1
  have hprc : Has (prcS f len) (fun x => (0 ≤ x.1 ∧ x.1 ≤ 4294967295) ∧ (x.2.1.size : Int) ≤ 20) := fun s h => by
    have h2 : (textS f len 20 (numS f len 4294967295 s).2).2.st = false := (oct_form (f := f) (len := len) 1 _ h).1
    exact ⟨numS_bd f len 4294967295 s (by omega), text_has f len 20 (by omega) _ h2⟩
  have himp : Has (impS f len) (fun x => (x.1.size : Int) ≤ 20) := fun s h => by
    have h2 : (textS f len 20 s).2.st = false := (word_form hf _ h).1
    exact text_has f len 20 (by omega) _ h2
  have hdsc : Has (dscS f len) (fun x => (0 ≤ x.1 ∧ x.1 ≤ 4294967295) ∧ (0 ≤ x.2.1 ∧ x.2.1 ≤ 4294967295) ∧ (x.2.2.length : Int) ≤ 4 ∧ ∀ t ∈ x.2.2, 0 ≤ t ∧ t ≤ 4294967295) := fun s h => by
    have h3 := row_has (num_has f len 4294967295 (by omega)) (f := f) (len := len) 4 (by omega) _ h
    exact ⟨numS_bd f len 4294967295 s (by omega), numS_bd f len 4294967295 _ (by omega), h3⟩
  have hfix : Has (fixS f len) (fun x => (0 ≤ x.1 ∧ x.1 ≤ 4294967295) ∧ (0 ≤ x.2.1 ∧ x.2.1 ≤ 255) ∧ (-1 ≤ x.2.2.1 ∧ x.2.2.1 ≤ 4294967294) ∧ (0 ≤ x.2.2.2 ∧ x.2.2.2 ≤ 4294967295)) := fun s h => by
    refine ⟨numS_bd f len 4294967295 s (by omega), ?_, ?_, numS_bd f len 4294967295 _ (by omega)⟩
    · show 0 ≤ (octS f len 255 (numS f len 4294967295 s).2).1 ∧ (octS f len 255 (numS f len 4294967295 s).2).1 ≤ 255
      unfold octS
      split
      · rename_i hc
        simp only [Bool.and_eq_true, decide_eq_true_eq] at hc
        exact hf _ hc.2.1
      · exact ⟨by omega, by omega⟩
    · have := numS_bd f len 16 (octS f len 255 (numS f len 4294967295 s).2).2 (by omega)
      show -1 ≤ (numS f len 16 (octS f len 255 (numS f len 4294967295 s).2).2).1 - 1 ∧ (numS f len 16 (octS f len 255 (numS f len 4294967295 s).2).2).1 - 1 ≤ 4294967294
      omega
  have t0 := text_has f len 20 (by omega) s (by rw [e0]; exact s0)
  have t2 := row_has himp (f := f) (len := len) 16 (by omega) x1.2 (by rw [e2]; exact s2)
  have t3 := row_has (P := fun _ => True) (fun s h => trivial : Has (wordS f len) fun _ => True) (f := f) (len := len) 65536 (by omega) x2.2 (by rw [e3]; exact s3)
  have t4 := row_has hprc (f := f) (len := len) 100 (by omega) x3.2 (by rw [e4]; exact s4)
  have t5 := numS_bd f len 4294967295 x4.2 (by omega)
  have t6 := row_has (num_has f len 4294967295 (by omega)) (f := f) (len := len) 200 (by omega) x5.2 (by rw [e6]; exact s6)
  have t7 := row_has (num_has f len 4294967295 (by omega)) (f := f) (len := len) 200 (by omega) x6.2 (by rw [e7]; exact s7)
  have t8 := row_has (text_has f len 200 (by omega)) (f := f) (len := len) 200 (by omega) x7.2 (by rw [e8]; exact s8)
  have t9 := row_has hdsc (f := f) (len := len) 200 (by omega) x8.2 (by rw [e9]; exact s9)
  have t10 := row_has hfix (f := f) (len := len) 65536 (by omega) x9.2 (by rw [e10]; exact hs)
  rw [e0] at t0; rw [e2] at t2; rw [e3] at t3; rw [e4] at t4; rw [e5] at t5; rw [e6] at t6; rw [e7] at t7; rw [e8] at t8; rw [e9] at t9; rw [e10] at t10
  have u0 : x0.1.size ≤ 1000 := by omega
  have u2 : x2.1.length ≤ 65536 ∧ ∀ x ∈ x2.1, x.1.size ≤ 1000 := ⟨by omega, fun x hx => by have := t2.2 x hx; omega⟩
  have u3 : x3.1.length ≤ 65536 := by omega
  have u4 : x4.1.length ≤ 65536 := by omega
  have u6 : x6.1.length ≤ 65536 := by omega
  have u7 : x7.1.length ≤ 65536 := by omega
  have u8 : x8.1.length ≤ 65536 ∧ ∀ x ∈ x8.1, x.size ≤ 1000 := ⟨by omega, fun x hx => by have := t8.2 x hx; omega⟩
  have u9 : x9.1.length ≤ 65536 := by omega
  have u10 : x10.1.length ≤ 65536 := by omega
  refine ⟨u0, u2, u3, ⟨by rw [List.length_map]; exact u4, fun x hx => ?_⟩, ⟨by rw [List.length_map, List.length_map], fun x hx => ?_⟩, by rw [List.length_map, List.length_map], t5, ⟨u6, t6.2⟩, ⟨u7, t7.2⟩, u8, ⟨u9, fun x hx => ?_⟩, ⟨u10, t10.2⟩⟩
  · obtain ⟨y, hy, rfl⟩ := List.mem_map.1 hx
    exact (t4.2 y hy).1
  · obtain ⟨y, hy, rfl⟩ := List.mem_map.1 hx
    have := (t4.2 y hy).2; omega
  · have := t9.2 x hx
    exact ⟨this.1, this.2.1, by have := this.2.2.1; omega, this.2.2.2⟩
end Go.Proofs.Ytepgifapepaheaa
