/-
  Layer 13, plain: what is read of bytes as symbols, written again, is these bytes; what right symbols are within.
-/
import Derived.Test.YtcppgpcgbggdcaaDoorYwb
namespace Go.Proofs.YtcppgpcgbggdcaaDoor
set_option linter.unusedVariables false
set_option linter.unusedSimpArgs false

/-- The n bytes from a place on. -/
def seg (f : Nat → Int) (p n : Nat) : List Int := (List.range n).map fun j => f (p + j)
theorem seg_len (f : Nat → Int) (p n : Nat) : (seg f p n).length = n := by simp [seg]
theorem seg_app (f : Nat → Int) (p a b : Nat) : seg f p (a + b) = seg f p a ++ seg f (p + a) b := by
  unfold seg
  rw [List.range_add, List.map_append, List.map_map]
  congr 1
  exact List.map_congr_left fun j _ => by simp [Nat.add_assoc]
def Oct (f : Nat → Int) (len : Nat) : Prop := ∀ i, i < len → 0 ≤ f i ∧ f i ≤ 255
theorem rdU_form (g : Nat → Int) (avail : Nat) (hg : ∀ i, i < avail → 0 ≤ g i ∧ g i ≤ 255) : ∀ (k i : Nat) (acc n : Int) (j : Nat), rdU g avail (k + 1) i acc = some (n, j) → ∃ (m : Int) (d : Nat), j = i + d ∧ j ≤ avail ∧ 0 ≤ m ∧ (0 < i → 1 ≤ m) ∧ n = acc + m * 128 ^ i ∧ numL k m = (List.range d).map fun t => g (i + t)
  | k, i, acc, n, j, h => by
    rw [rdU] at h
    split at h
    · cases h
    rename_i hav
    have hgi := hg i (by omega)
    split at h
    · rename_i hbig
      cases k with
      | zero => cases h
      | succ k =>
        obtain ⟨m, d, e1, e2, e3, e4, e5, e6⟩ := rdU_form g avail hg k (i + 1) _ n j h
        have e4' := e4 (by omega)
        refine ⟨g i % 128 + 128 * m, d + 1, by omega, e2, by omega, fun _ => by omega, ?_, ?_⟩
        · rw [e5, Int.pow_succ, Int.add_mul, Int.mul_assoc, Int.mul_comm 128 (m * 128 ^ i), Int.mul_assoc, Int.add_assoc]
        · rw [numL_big k _ (by omega), show (g i % 128 + 128 * m) % 128 + 128 = g i by omega, show (g i % 128 + 128 * m) / 128 = m by omega, e6, List.range_succ_eq_map, List.map_cons, List.map_map]
          congr 1
          exact List.map_congr_left fun t _ => by simp [Nat.add_assoc, Nat.add_comm 1]
    · rename_i hs
      split at h
      · cases h
      · rename_i hc
        injection h with h
        injection h with h1 h2
        have hm : g i % 128 = g i := by omega
        refine ⟨g i, 1, by omega, by omega, by omega, fun hi => ?_, by rw [← h1, hm], ?_⟩
        · have := fun e => hc (.inr ⟨e, hi⟩)
          omega
        · rw [numL_small k _ (by omega)]; simp
theorem uintR_form {f : Nat → Int} {len : Nat} (hf : Oct f len) {p : Nat} {n : Int} {i : Nat} (h : uintR f len p = some (n, i)) : numL 4 n = seg f p i := by
  unfold uintR at h
  split at h
  · rename_i hp
    obtain ⟨m, d, e1, e2, e3, e4, e5, e6⟩ := rdU_form _ _ (fun t ht => hf _ (by omega)) 4 0 0 n i h
    simp only [Int.toNat_natCast, Nat.zero_add] at e6 e1
    subst e1
    rw [show n = m by rw [e5]; simp, e6]
    rfl
  · cases h
/-- What is read, where it isn't stuck, is what is written. -/
def Form {α : Type} (f : Nat → Int) (len : Nat) (rd : St → α × St) (L : α → List Int) : Prop := ∀ s, (rd s).2.st = false → s.st = false ∧ (s.p ≤ len → ∃ k, (rd s).2.p = s.p + k ∧ s.p + k ≤ len ∧ L (rd s).1 = seg f s.p k)
theorem num_form {f : Nat → Int} {len : Nat} (hf : Oct f len) (most : Int) : Form f len (numS f len most) (numL 4) := by
  intro s h
  unfold numS at h ⊢
  cases hu : uintR f len s.p with
  | none => rw [hu] at h; cases h
  | some r =>
    obtain ⟨n, i⟩ := r
    rw [hu] at h
    have hb := uintR_bd hu
    simp only at h ⊢
    split at h
    · rename_i hc
      rw [if_pos hc]
      simp only [Bool.and_eq_true, Bool.not_eq_true'] at hc
      exact ⟨hc.1, fun hp => ⟨i, rfl, by omega, uintR_form hf hu⟩⟩
    · cases h
theorem sL_nums (l : List Int) (h : ∀ x ∈ l, 0 ≤ x ∧ x ≤ 255) : sL (strOfNums l) = l := by
  unfold sL
  rw [strOfNums_data, List.map_map]
  conv => rhs; rw [← List.map_id l]
  refine List.map_congr_left fun x hx => ?_
  have := h x hx
  simp only [Function.comp, id]
  rw [show (UInt8.ofNat x.toNat).toNat = x.toNat % 256 from rfl]
  omega
theorem text_form {f : Nat → Int} {len : Nat} (hf : Oct f len) (hl : len ≤ 1048576) (most : Int) : Form f len (textS f len most) textL := by
  intro s h
  unfold textS at h ⊢
  cases ht : textR f len s.p most with
  | none => rw [ht] at h; cases h
  | some r =>
    obtain ⟨q, m⟩ := r
    rw [ht] at h
    simp only at h ⊢
    split at h
    · rename_i hc
      rw [if_pos hc]
      simp only [Bool.not_eq_true'] at hc
      unfold textR at ht
      cases hu : uintR f len s.p with
      | none => rw [hu] at ht; cases ht
      | some r =>
        obtain ⟨n, i⟩ := r
        have hb := uintR_bd hu
        rw [hu] at ht
        simp only at ht
        split at ht
        · rename_i hh
          injection ht with ht
          injection ht with e1 e2
          subst e1 e2
          refine ⟨hc, fun hp => ⟨i + n.toNat, by show (↑s.p + ↑i : Int).toNat + n.toNat = _; omega, by omega, ?_⟩⟩
          have hq : (↑s.p + ↑i : Int).toNat = s.p + i := by omega
          rw [hq]
          unfold textL tS
          simp only
          rw [strOfNums_size, bl_len, sL_nums _ (fun x hx => by
            obtain ⟨j, hj, rfl⟩ := List.mem_map.1 hx
            have := List.mem_range.1 hj
            exact hf _ (by omega)), show ((n.toNat : Nat) : Int) % 4294967296 = n by omega, uintR_form hf hu, seg_app]
          rfl
        · cases ht
    · cases h
theorem word_back {f : Nat → Int} {len : Nat} (hf : Oct f len) (p : Nat) (h : p + 4 ≤ len) : wdL (gotW len f p) = seg f p 4 := by
  have hfit : fits len (p : Int) = true := by unfold fits; exact decide_eq_true (by omega)
  unfold gotW
  rw [if_pos hfit]
  unfold wordAt wdL seg
  have h0 := hf p (by omega)
  have h1 := hf (p + 1) (by omega)
  have h2 := hf (p + 2) (by omega)
  have h3 := hf (p + 3) (by omega)
  have e : tgv 256 (fun i => f ((p : Int).toNat + i)) 4 = f p + f (p + 1) * 256 + f (p + 2) * 65536 + f (p + 3) * 16777216 := by
    simp [tgv]
  rw [e]
  have r : List.range 4 = [0, 1, 2, 3] := rfl
  rw [r]
  simp only [List.map_cons, List.map_nil, byteOf, Nat.add_zero]
  refine congr (congrArg List.cons ?_) (congr (congrArg List.cons ?_) (congr (congrArg List.cons ?_) (congr (congrArg List.cons ?_) rfl)))
  · rw [show (2 : Int) ^ (8 * 0) = 1 from rfl]; omega
  · rw [show (2 : Int) ^ (8 * 1) = 256 from rfl]; omega
  · rw [show (2 : Int) ^ (8 * 2) = 65536 from rfl]; omega
  · rw [show (2 : Int) ^ (8 * 3) = 16777216 from rfl]; omega
theorem word_form {f : Nat → Int} {len : Nat} (hf : Oct f len) : Form f len (wordS f len) wdL := by
  intro s h
  unfold wordS at h ⊢
  split at h
  · rename_i hc
    rw [if_pos hc]
    simp only [Bool.and_eq_true, Bool.not_eq_true'] at hc
    have hq : s.p + 4 ≤ len := by have := hc.2; unfold fits at this; have := of_decide_eq_true this; omega
    exact ⟨hc.1, fun hp => ⟨4, rfl, hq, word_back hf s.p hq⟩⟩
  · cases h
/-- One thing behind another. -/
theorem Form.two {α β : Type} {f : Nat → Int} {len : Nat} {r1 : St → α × St} {r2 : St → β × St} {L1 : α → List Int} {L2 : β → List Int} (h1 : Form f len r1 L1) (h2 : Form f len r2 L2) : Form f len (fun s => (((r1 s).1, (r2 (r1 s).2).1), (r2 (r1 s).2).2)) (fun x => L1 x.1 ++ L2 x.2) := by
  intro s h
  simp only at h ⊢
  obtain ⟨a2, b2⟩ := h2 (r1 s).2 h
  obtain ⟨a1, b1⟩ := h1 s a2
  refine ⟨a1, fun hp => ?_⟩
  obtain ⟨k1, e1, e2, e3⟩ := b1 hp
  obtain ⟨k2, e4, e5, e6⟩ := b2 (by omega)
  exact ⟨k1 + k2, by omega, by omega, by rw [e3, e6, e1, seg_app]⟩
/-- The same, read as something else. -/
theorem Form.as {α β : Type} {f : Nat → Int} {len : Nat} {r : St → α × St} {q : St → β × St} {L : α → List Int} {M : β → List Int} (h : Form f len r L) (g : α → β) (hq : ∀ s, q s = (g (r s).1, (r s).2)) (hL : ∀ s, (r s).2.st = false → M (g (r s).1) = L (r s).1) : Form f len q M := by
  intro s hs
  rw [hq] at hs ⊢
  obtain ⟨a, b⟩ := h s hs
  refine ⟨a, fun hp => ?_⟩
  obtain ⟨k, e1, e2, e3⟩ := b hp
  exact ⟨k, e1, e2, by rw [hL s hs]; exact e3⟩
theorem loop_form {α : Type} {f : Nat → Int} {len : Nat} {rd : St → α × St} {L : α → List Int} (h : Form f len rd L) : ∀ (n : Nat) (acc : List α) (s : St), (loopS rd n acc s).2.st = false → s.st = false ∧ ∃ xs : List α, (loopS rd n acc s).1 = acc ++ xs ∧ xs.length = n ∧ (s.p ≤ len → ∃ k, (loopS rd n acc s).2.p = s.p + k ∧ s.p + k ≤ len ∧ (xs.map L).flatten = seg f s.p k)
  | 0, acc, s, hs => ⟨hs, [], by simp [loopS], rfl, fun hp => ⟨0, by simp [loopS], by omega, by simp [seg]⟩⟩
  | n + 1, acc, s, hs => by
    rw [loopS] at hs ⊢
    cases hst : (rd s).2.st
    · rw [hst] at hs
      simp only [Bool.false_eq_true, if_false] at hs ⊢
      obtain ⟨_, xs, e1, e2, e3⟩ := loop_form h n _ _ hs
      obtain ⟨a, b⟩ := h s hst
      refine ⟨a, (rd s).1 :: xs, by rw [e1]; simp, by simp [e2], fun hp => ?_⟩
      obtain ⟨k1, f1, f2, f3⟩ := b hp
      obtain ⟨k2, f4, f5, f6⟩ := e3 (by omega)
      exact ⟨k1 + k2, by omega, by omega, by rw [List.map_cons, List.flatten_cons, f3, f6, f1, seg_app]⟩
    · rw [hst] at hs
      simp only [if_true] at hs
      rw [hst] at hs; cases hs
/-- A row as bytes. -/
def rowL {α : Type} (L : α → List Int) (l : List α) : List Int := numL 4 (l.length : Int) ++ (l.map L).flatten
theorem row_form {α : Type} {f : Nat → Int} {len : Nat} (hf : Oct f len) {rd : St → α × St} {L : α → List Int} (h : Form f len rd L) (most : Int) (m0 : 0 ≤ most) : Form f len (rowS f len most rd) (rowL L) := by
  intro s hs
  unfold rowS at hs ⊢
  have hb := numS_bd f len most s m0
  obtain ⟨a2, xs, e1, e2, e3⟩ := loop_form h _ _ _ hs
  obtain ⟨a1, b1⟩ := num_form hf most s a2
  have hnn : (((numS f len most s).1.toNat : Nat) : Int) = (numS f len most s).1 := Int.toNat_of_nonneg hb.1
  refine ⟨a1, fun hp => ?_⟩
  obtain ⟨k1, f1, f2, f3⟩ := b1 hp
  obtain ⟨k2, f4, f5, f6⟩ := e3 (by omega)
  refine ⟨k1 + k2, by omega, by omega, ?_⟩
  rw [e1, List.nil_append]
  unfold rowL
  rw [e2, hnn, f3, f6, f1, seg_app]
theorem octP_form {f : Nat → Int} {len : Nat} (P : Int → Bool) : Form f len (octP f len P) (fun x => [x]) := by
  intro s h
  unfold octP at h ⊢
  split at h
  · rename_i hc
    rw [if_pos hc]
    simp only [Bool.and_eq_true, Bool.not_eq_true', decide_eq_true_eq] at hc
    exact ⟨hc.1, fun hp => ⟨1, rfl, by omega, by simp [seg]⟩⟩
  · cases h
/-- One thing behind another, which hangs on it. -/
theorem Form.bind {α β : Type} {f : Nat → Int} {len : Nat} {r1 : St → α × St} {r2 : α → St → β × St} {L1 : α → List Int} {L2 : α → β → List Int} (h1 : Form f len r1 L1) (h2 : ∀ x, Form f len (r2 x) (L2 x)) : Form f len (fun s => (((r1 s).1, (r2 (r1 s).1 (r1 s).2).1), (r2 (r1 s).1 (r1 s).2).2)) (fun x => L1 x.1 ++ L2 x.1 x.2) := by
  intro s h
  simp only at h ⊢
  obtain ⟨a2, b2⟩ := h2 (r1 s).1 (r1 s).2 h
  obtain ⟨a1, b1⟩ := h1 s a2
  refine ⟨a1, fun hp => ?_⟩
  obtain ⟨k1, e1, e2, e3⟩ := b1 hp
  obtain ⟨k2, e4, e5, e6⟩ := b2 (by omega)
  exact ⟨k1 + k2, by omega, by omega, by rw [e3, e6, e1, seg_app]⟩
theorem rowL_sum {α : Type} (L : α → List Int) (l : List α) : numL 4 (l.length : Int) ++ sumL L l l.length = rowL L l := by unfold sumL rowL; rw [List.take_length]
def prcP (p : Pc) : List Int := textL p.nm ++ (rowL parL p.ps ++ [p.rs])
theorem prcL_P (q : Pc × Sl) : prcL q = prcP q.1 := by
  unfold prcL prcP
  rw [List.append_assoc (textL q.1.nm), rowL_sum, List.append_assoc]
def symP (o : Sy) : List Int := textL o.nm ++ (rowL consL o.cs ++ (rowL varL o.vs ++ rowL prcP o.ps))
theorem symL_P {o : Sy} {ls : List (Pc × Sl)} (h : ls.map (·.1) = o.ps) : symL o ls = symP o := by
  have e : rowL prcL ls = rowL prcP o.ps := by
    unfold rowL
    rw [← h, List.length_map, List.map_map]
    rw [show List.map (prcP ∘ fun x => x.1) ls = List.map prcL ls from List.map_congr_left fun q _ => (prcL_P q).symm]
  unfold symL symP
  rw [← e, ← rowL_sum consL, ← rowL_sum varL, ← rowL_sum prcL]
  simp only [List.append_assoc]
theorem sext_back (x : Int) (h0 : 0 ≤ x) (h1 : x ≤ 4294967295) : sext x 32 % 4294967296 = x := by
  unfold sext sx
  simp
  split <;> omega
theorem word_in {f : Nat → Int} {len : Nat} (hf : Oct f len) (s : St) : 0 ≤ (wordS f len s).1 ∧ (wordS f len s).1 ≤ 4294967295 := wordS_bd hf s
section
variable {f : Nat → Int} {len : Nat} (hf : Oct f len)
include hf
/-- What stands behind a constant's Type. -/
def conT (f : Nat → Int) (len : Nat) (t : Int) (s : St) : (Int × ByteArray) × St :=
  if t = 7 then ((0, (textS f len 200 s).1), (textS f len 200 s).2) else if t = 1 then ((sext (wordS f len s).1 32, ⟨#[]⟩), (wordS f len s).2) else (((wordS f len s).1, ⟨#[]⟩), (wordS f len s).2)
theorem conT_form (hl : len ≤ 1048576) (t : Int) : Form f len (conT f len t) (fun x => if t = 7 then textL x.2 else wdL (x.1 % 4294967296)) := by
  by_cases h7 : t = 7
  · exact Form.as (text_form hf hl 200) (fun x => ((0 : Int), x)) (fun s => by unfold conT; rw [if_pos h7]) (fun s _ => by rw [if_pos h7])
  · by_cases h1 : t = 1
    · exact Form.as (word_form hf) (fun x => (sext x 32, (⟨#[]⟩ : ByteArray))) (fun s => by unfold conT; rw [if_neg h7, if_pos h1]) (fun s _ => by
        have := word_in hf s
        rw [if_neg h7]
        simp only
        rw [sext_back _ this.1 this.2])
    · exact Form.as (word_form hf) (fun x => (x, (⟨#[]⟩ : ByteArray))) (fun s => by unfold conT; rw [if_neg h7, if_neg h1]) (fun s _ => by
        have := word_in hf s
        rw [if_neg h7]
        simp only
        congr 1
        omega)
theorem con_form (hl : len ≤ 1048576) : Form f len (conS f len) consL :=
  Form.as (Form.two (text_form hf hl 20) (Form.bind (octP_form (f := f) (len := len) conB) (conT_form hf hl))) (fun x => ⟨x.1, x.2.1, x.2.2.1, x.2.2.2, true⟩) (fun s => by
    unfold conS conT
    simp only
    split
    · rfl
    · split <;> rfl) (fun s _ => by
    unfold consL
    simp only [List.append_assoc])
theorem var_form (hl : len ≤ 1048576) : Form f len (varS f len) varL :=
  Form.as (Form.two (text_form hf hl 20) (Form.two (octP_form (f := f) (len := len) plainB) (num_form hf 4294967295))) (fun x => ⟨x.1, x.2.1, x.2.2, false, false⟩) (fun s => rfl) (fun s _ => by
    unfold varL
    simp only [List.append_assoc])
theorem par_form : Form f len (parS f len) parL :=
  Form.as (Form.two (octP_form (f := f) (len := len) plainB) (octP_form (f := f) (len := len) bitB)) (fun x => ⟨⟨#[]⟩, x.1, 0, decide (x.2 = 1 ∨ x.2 = 3), decide (x.2 = 2 ∨ x.2 = 3)⟩) (fun s => rfl) (fun s _ => by
    unfold parL bitsI
    simp only
    rcases bit_four f len (octP f len plainB s).2 hf with e | e | e | e <;> rw [e] <;> rfl)
theorem pc_form (hl : len ≤ 1048576) : Form f len (pcS f len) prcP :=
  Form.as (Form.two (text_form hf hl 20) (Form.two (row_form hf (par_form hf) 8 (by omega)) (octP_form (f := f) (len := len) resB))) (fun x => ⟨x.1, x.2.1, x.2.2⟩) (fun s => rfl) (fun s _ => rfl)
/-- What is read as symbols is what is written of them. -/
theorem sym_form (hl : len ≤ 1048576) : Form f len (symS f len) symP :=
  Form.as (Form.two (text_form hf hl 20) (Form.two (row_form hf (con_form hf hl) 200 (by omega)) (Form.two (row_form hf (var_form hf hl) 200 (by omega)) (row_form hf (pc_form hf hl) 100 (by omega)))))
    (fun x => ⟨x.1, x.2.1, x.2.2.1, x.2.2.2⟩) (fun s => rfl) (fun s _ => rfl)
end
theorem sumL_le {α : Type} (enc : α → List Int) (K : Nat) (xs : List α) (h : ∀ x ∈ xs, (enc x).length ≤ K) : ∀ i, i ≤ xs.length → (sumL enc xs i).length ≤ K * i
  | 0, _ => by simp [sumL]
  | i + 1, hi => by
    rw [sumL_succ enc xs i (by omega), List.length_append, Nat.mul_succ]
    have := sumL_le enc K xs h i (by omega)
    have := h _ (List.getElem_mem (show i < xs.length by omega))
    omega
theorem nameB_sz {s : ByteArray} (h : nameB s = true) : s.size ≤ 20 := by
  unfold nameB at h
  simp only [Bool.and_eq_true, decide_eq_true_eq] at h
  exact h.1.1.2
theorem plainB_in {x : Int} (h : plainB x = true) : 1 ≤ x ∧ x ≤ 5 := by
  unfold plainB at h
  simpa using h
theorem resB_in {x : Int} (h : resB x = true) : 0 ≤ x ∧ x ≤ 5 := by
  unfold resB at h
  rw [Bool.or_eq_true] at h
  rcases h with h | h
  · have := of_decide_eq_true h; omega
  · have := plainB_in h; omega
/-- What right symbols are within. -/
structure In (o : Sy) : Prop where
  nm : o.nm.size ≤ 20
  cl : o.cs.length ≤ 200
  cs : ∀ x ∈ o.cs, x.nm.size ≤ 20 ∧ x.s.size ≤ 200 ∧ 1 ≤ x.ty ∧ x.ty ≤ 7
  vl : o.vs.length ≤ 200
  vs : ∀ x ∈ o.vs, x.nm.size ≤ 20 ∧ 0 ≤ x.fm ∧ x.fm ≤ 5 ∧ 0 ≤ x.ln ∧ x.ln ≤ 16384
  pl : o.ps.length ≤ 100
  ps : ∀ x ∈ o.ps, x.nm.size ≤ 20 ∧ x.ps.length ≤ 8 ∧ 0 ≤ x.rs ∧ x.rs ≤ 5 ∧ ∀ v ∈ x.ps, 1 ≤ v.fm ∧ v.fm ≤ 5
theorem cnB_in {x : Cn} (h : cnB x = true) : x.nm.size ≤ 20 ∧ x.s.size ≤ 200 ∧ 1 ≤ x.ty ∧ x.ty ≤ 7 := by
  unfold cnB at h
  have hty : (valB x.ty).isSome = true → 1 ≤ x.ty ∧ x.ty ≤ 7 := by
    unfold valB
    intro hs
    split at hs
    · omega
    · split at hs
      · omega
      · split at hs
        · omega
        · split at hs
          · omega
          · split at hs
            · omega
            · cases hs
  cases hv : valB x.ty with
  | none => rw [hv] at h; cases h
  | some r =>
    obtain ⟨lo, hi⟩ := r
    rw [hv] at h hty
    have ht := hty rfl
    unfold cnsB at h
    simp only [Bool.and_eq_true, decide_eq_true_eq] at h
    obtain ⟨_, _, h3, _, h5⟩ := h
    have := nameB_sz h5
    refine ⟨this, ?_, ht.1, ht.2⟩
    split at h3 <;> omega
theorem varB_in {x : Vr} (h : varB x = true) : x.nm.size ≤ 20 ∧ 0 ≤ x.fm ∧ x.fm ≤ 5 ∧ 0 ≤ x.ln ∧ x.ln ≤ 16384 := by
  unfold varB at h
  simp only [Bool.and_eq_true, decide_eq_true_eq] at h
  obtain ⟨h1, h2, h3, _, _, h6⟩ := h
  have := plainB_in h1
  refine ⟨nameB_sz h6, by omega, by omega, h2, ?_⟩
  unfold mostL at h3
  split at h3 <;> omega
theorem prcB_in {x : Pc} (h : prcB x = true) : x.nm.size ≤ 20 ∧ x.ps.length ≤ 8 ∧ 0 ≤ x.rs ∧ x.rs ≤ 5 ∧ ∀ v ∈ x.ps, 1 ≤ v.fm ∧ v.fm ≤ 5 := by
  unfold prcB at h
  simp only [Bool.and_eq_true, decide_eq_true_eq] at h
  obtain ⟨⟨h1, h2⟩, h3, h4⟩ := h
  have := resB_in h3
  refine ⟨nameB_sz h4, by omega, this.1, this.2, fun v hv => ?_⟩
  have hp := List.all_eq_true.1 h2 v hv
  unfold parB at hp
  rw [Bool.and_eq_true] at hp
  exact plainB_in hp.1
theorem in_right {o : Sy} (h : rightP o = true) : In o := by
  unfold rightP rightS at h
  simp only [Bool.and_eq_true, decide_eq_true_eq, List.length_map] at h
  obtain ⟨h1, ⟨h2, h3⟩, ⟨h4, h5⟩, ⟨h6, h7⟩, _⟩ := h
  refine ⟨nameB_sz h1, by omega, fun x hx => cnB_in (List.all_eq_true.1 h3 x hx), by omega, fun x hx => varB_in (List.all_eq_true.1 h5 x hx), by omega, fun x hx => prcB_in ?_⟩
  exact List.all_eq_true.1 h7 (x, ⟨none, 0, 0⟩) (List.mem_map.2 ⟨x, hx, rfl⟩)
theorem consL_le (x : Cn) (h1 : x.nm.size ≤ 20) (h2 : x.s.size ≤ 200) : (consL x).length ≤ 250 := by
  have := textL_len x.nm
  have := textL_len x.s
  unfold consL
  rw [List.length_append, List.length_append]
  split
  · simp only [List.length_cons, List.length_nil]; omega
  · simp only [List.length_cons, List.length_nil, wdL]; omega
theorem varL_le (x : Vr) (h1 : x.nm.size ≤ 20) : (varL x).length ≤ 50 := by
  have := textL_len x.nm
  have := numL_len 4 x.ln
  unfold varL
  rw [List.length_append, List.length_append]
  simp only [List.length_cons, List.length_nil]; omega
theorem prcL_le (x : Pc × Sl) (h1 : x.1.nm.size ≤ 20) (h2 : x.1.ps.length ≤ 8) : (prcL x).length ≤ 60 := by
  have := textL_len x.1.nm
  have := numL_len 4 (x.1.ps.length : Int)
  have := sumL_par x.1.ps _ (Nat.le_refl _)
  unfold prcL
  rw [List.length_append, List.length_append, List.length_append]
  simp only [List.length_cons, List.length_nil]; omega
end Go.Proofs.YtcppgpcgbggdcaaDoor
