/-
  Layer 7, plain: what was written is read.
  Layer 7, plain: a right object is small; how long its bytes are.
  Layer 7: an object's bytes are read as the object, and not with more behind; rows of bytes that are put together.
  Layer 7: bytes with their sum behind them: the law's summed.
  Layer 7: the law's Same, at two objects that hold the same.
  Layer 7: the law's Same, at two objects that hold the same: procedures, then all.
  Layer 7: the law's Same, at two objects that hold the same.
  Layer 7: a right object is read from its bytes, from none with more behind: the law's walk.
  Layer 7: an object that came in, opened.
  Proved: for every object and every row of bytes the law ObjBack returns true: a right object is read by Decode from the bytes that Encode writes of it, as the same object, and from these bytes with others behind them (and their sum) just if there are no others; an object that is not right is written as nothing. No condition.
-/
import Derived.Test.YtjpaepmnmlpjkaaPln
import Derived.Test.YtjpaepmnmlpjkaaRgt
import Derived.Test.YtjpaepmnmlpjkaaWob
import Derived.Test.YtjpaepmnmlpjkaaOneW
import Derived.Deep.DeepAppendWide
import Derived.Laws.OwnMore
import Derived.Test.YtjpaepmnmlpjkaaRtr
import Derived.SizedLaws
import Derived.ProofKit
import Derived.OpenShut
import Derived.ShutString
import Derived.ChangeOld
import Derived.Below
import Derived.Deep.Slices
import Derived.Test.YtjpaepmnmlpjkaaRows
namespace Go.Proofs.Ytjpaepmnmlpjkaa
set_option linter.unusedVariables false
set_option linter.unusedSimpArgs false

/-- Bytes that lie from a place on. -/
def Lies (f : Nat → Int) (p : Nat) (l : List Int) : Prop := ∀ j, j < l.length → f (p + j) = l.getD j 0
theorem Lies.left {f : Nat → Int} {p : Nat} {a b : List Int} (h : Lies f p (a ++ b)) : Lies f p a := fun j hj => by
  have := h j (by rw [List.length_append]; omega)
  rw [this, List.getD_eq_getElem?_getD, List.getD_eq_getElem?_getD, List.getElem?_append_left hj]
theorem Lies.right {f : Nat → Int} {p : Nat} {a b : List Int} (h : Lies f p (a ++ b)) : Lies f (p + a.length) b := fun j hj => by
  have := h (a.length + j) (by rw [List.length_append]; omega)
  rw [Nat.add_assoc, this, List.getD_eq_getElem?_getD, List.getD_eq_getElem?_getD, List.getElem?_append_right (by omega), Nat.add_sub_cancel_left]
theorem rdU_back (g : Nat → Int) (avail : Nat) : ∀ (k i : Nat) (acc m : Int), 0 ≤ acc → 0 ≤ m → m < 128 ^ (k + 1) → (0 < i → 1 ≤ m) → acc + m * 128 ^ i ≤ 4294967295 → i + (numL k m).length ≤ avail → (∀ j, j < (numL k m).length → g (i + j) = (numL k m).getD j 0) → rdU g avail (k + 1) i acc = some (acc + m * 128 ^ i, i + (numL k m).length)
  | k, i, acc, m, ha, h0, h1, hi, hs, hav, hg => by
    by_cases hm : m < 128
    · rw [numL_small k m hm] at hav hg ⊢
      have hg0 : g i = m := hg 0 (by simp)
      simp only [List.length_cons, List.length_nil] at hav ⊢
      have hm2 : m % 128 = m := by omega
      rw [rdU, if_neg (by omega), hg0, if_neg (by omega), hm2, if_neg]
      intro hc
      rcases hc with hc | ⟨e, hc⟩
      · omega
      · have := hi hc; omega
    · cases k with
      | zero => rw [show (128 : Int) ^ (0 + 1) = 128 from rfl] at h1; omega
      | succ k =>
        rw [numL_big k m hm] at hav hg ⊢
        have hg0 : g i = m % 128 + 128 := hg 0 (by simp)
        simp only [List.length_cons] at hav hg ⊢
        have hm2 : (m % 128 + 128) % 128 = m % 128 := by omega
        have hP : (0 : Int) < 128 ^ i := Int.pow_pos (by omega)
        have hsum : acc + m % 128 * 128 ^ i + m / 128 * 128 ^ (i + 1) = acc + m * 128 ^ i := by
          rw [Int.pow_succ, Int.add_assoc]
          congr 1
          rw [← Int.mul_assoc, Int.mul_comm (m / 128 * 128 ^ i) 128, ← Int.mul_assoc, ← Int.add_mul]
          congr 1
          omega
        have hacc : 0 ≤ m % 128 * 128 ^ i := Int.mul_nonneg (by omega) (Int.le_of_lt hP)
        rw [rdU, if_neg (by omega), hg0, if_pos (by omega), hm2]
        have ih := rdU_back g avail k (i + 1) (acc + m % 128 * 128 ^ i) (m / 128) (by omega) (by omega) (by rw [Int.pow_succ] at h1; omega) (fun _ => by omega) (by omega) (by omega) (fun j hj => by
          have := hg (j + 1) (by omega)
          rw [List.getD_cons_succ] at this
          rw [← this]
          congr 1
          omega)
        rw [ih, hsum]
        congr 2
        omega
theorem uint_back {f : Nat → Int} {len p : Nat} {n : Int} (h0 : 0 ≤ n) (h1 : n ≤ 4294967295) (hl : p + (numL 4 n).length ≤ len) (h : Lies f p (numL 4 n)) : uintR f len (p : Int) = some (n, (numL 4 n).length) := by
  unfold uintR
  rw [if_pos ⟨by omega, by omega⟩]
  have := rdU_back (fun j => f ((p : Int).toNat + j)) (len - (p : Int).toNat) 4 0 0 n (by omega) h0 (by rw [show (128 : Int) ^ (4 + 1) = 34359738368 from rfl]; omega) (fun h => by omega) (by simp; omega) (by simp; omega) (fun j hj => by simp only [Int.toNat_natCast, Nat.zero_add]; exact h j hj)
  rw [this]
  simp
def Back {α : Type} (f : Nat → Int) (len : Nat) (rd : St → α × St) (L : α → List Int) (ok : α → Prop) : Prop := ∀ x p, ok x → p + (L x).length ≤ len → Lies f p (L x) → rd ⟨p, false⟩ = (x, ⟨p + (L x).length, false⟩)
theorem num_back (f : Nat → Int) (len : Nat) (most : Int) (hm : most ≤ 4294967295) : Back f len (numS f len most) (numL 4) (fun n => 0 ≤ n ∧ n ≤ most) := by
  intro n p ⟨h0, h1⟩ hl h
  unfold numS
  rw [uint_back h0 (by omega) hl h]
  simp only [Bool.not_false, Bool.true_and, decide_eq_true_eq]
  rw [if_pos h1]
theorem nums_sL (s : ByteArray) : strOfNums (sL s) = s := by
  unfold strOfNums sL
  rw [List.map_map]
  have : (fun n : Int => UInt8.ofNat n.toNat) ∘ (fun b : UInt8 => (b.toNat : Int)) = id := by
    funext b
    simp
  rw [this, List.map_id]
theorem text_back (f : Nat → Int) (len : Nat) (hl : len ≤ 1048576) (most : Int) : Back f len (textS f len most) textL (fun s => (s.size : Int) ≤ most) := by
  intro s p h1 hp h
  unfold textL at hp h
  rw [List.length_append, sL_len] at hp
  have hsz : ((s.size : Int) % 4294967296) = s.size := by omega
  rw [hsz] at hp h
  have hu := uint_back (f := f) (len := len) (p := p) (n := s.size) (by omega) (by omega) (by omega) h.left
  have hq : strOfNums (bl (fun j => f (p + (numL 4 (s.size : Int)).length + j)) s.size) = s := by
    have hbl : bl (fun j => f (p + (numL 4 (s.size : Int)).length + j)) s.size = sL s := by
      refine List.ext_getElem (by simp [bl, sL_len]) fun i h1 h2 => ?_
      have := h.right i h2
      rw [List.getD_eq_getElem?_getD, List.getElem?_eq_getElem h2] at this
      simpa [bl] using this
    rw [hbl, nums_sL]
  unfold textS textR
  rw [hu]
  simp only
  rw [if_pos ⟨h1, by omega⟩]
  simp only [Bool.not_false, if_true]
  have e1 : ((p : Int) + ((numL 4 (s.size : Int)).length : Int)).toNat = p + (numL 4 (s.size : Int)).length := by omega
  have e2 : ((s.size : Nat) : Int).toNat = s.size := by omega
  unfold tS
  simp only
  rw [e1, e2, hq]
  unfold textL
  rw [hsz, List.length_append, sL_len, Nat.add_assoc]
theorem word_backS (f : Nat → Int) (len : Nat) : Back f len (wordS f len) wdL (fun x => 0 ≤ x ∧ x ≤ 4294967295) := by
  intro x p ⟨h0, h1⟩ hl h
  have hl4 : p + 4 ≤ len := hl
  have hfit : fits len (p : Int) = true := by unfold fits; exact decide_eq_true (by omega)
  unfold wordS
  rw [hfit]
  simp only [Bool.not_false, Bool.and_self, if_true]
  have g0 : f p = byteOf x 0 := h 0 (by simp [wdL])
  have g1 : f (p + 1) = byteOf x 1 := h 1 (by simp [wdL])
  have g2 : f (p + 2) = byteOf x 2 := h 2 (by simp [wdL])
  have g3 : f (p + 3) = byteOf x 3 := h 3 (by simp [wdL])
  have e : gotW len f (p : Int) = x := by
    unfold gotW
    rw [if_pos hfit]
    unfold wordAt
    have e : tgv 256 (fun i => f ((p : Int).toNat + i)) 4 = f p + f (p + 1) * 256 + f (p + 2) * 65536 + f (p + 3) * 16777216 := by
      simp [tgv]
    rw [e, g0, g1, g2, g3]
    unfold byteOf
    rw [show (2 : Int) ^ (8 * 0) = 1 from rfl, show (2 : Int) ^ (8 * 1) = 256 from rfl, show (2 : Int) ^ (8 * 2) = 65536 from rfl, show (2 : Int) ^ (8 * 3) = 16777216 from rfl]
    omega
  rw [e]
  rfl
theorem oct_back (f : Nat → Int) (len : Nat) (most : Int) : Back f len (octS f len most) (fun x => [x]) (fun x => x ≤ most) := by
  intro x p h0 hl h
  have g0 : f p = x := h 0 (by simp)
  have hlt : p < len := by simp at hl; omega
  unfold octS
  simp only [g0, decide_eq_true hlt, decide_eq_true h0, Bool.not_false, Bool.and_self, if_true]
  rfl
theorem Back.two {α β : Type} {f : Nat → Int} {len : Nat} {r1 : St → α × St} {r2 : St → β × St} {L1 : α → List Int} {L2 : β → List Int} {o1 : α → Prop} {o2 : β → Prop} (h1 : Back f len r1 L1 o1) (h2 : Back f len r2 L2 o2) : Back f len (fun s => (((r1 s).1, (r2 (r1 s).2).1), (r2 (r1 s).2).2)) (fun x => L1 x.1 ++ L2 x.2) (fun x => o1 x.1 ∧ o2 x.2) := by
  intro x p ⟨k1, k2⟩ hl h
  simp only [List.length_append] at hl ⊢
  have e1 := h1 x.1 p k1 (by omega) h.left
  have e2 := h2 x.2 (p + (L1 x.1).length) k2 (by omega) h.right
  rw [e1]
  simp only
  rw [e2, Nat.add_assoc]
theorem Back.as {α β : Type} {f : Nat → Int} {len : Nat} {r : St → α × St} {q : St → β × St} {L : α → List Int} {M : β → List Int} {ok : α → Prop} {ok' : β → Prop} (h : Back f len r L ok) (g : α → β) (hq : ∀ s, q s = (g (r s).1, (r s).2)) (hL : ∀ y, ok' y → ∃ x, ok x ∧ g x = y ∧ M y = L x) : Back f len q M ok' := by
  intro y p hy hl hh
  obtain ⟨x, h1, h2, h3⟩ := hL y hy
  rw [h3] at hl hh ⊢
  rw [hq, h x p h1 hl hh, h2]
theorem loop_back {α : Type} {f : Nat → Int} {len : Nat} {rd : St → α × St} {L : α → List Int} {ok : α → Prop} (h : Back f len rd L ok) : ∀ (xs acc : List α) (p : Nat), (∀ x ∈ xs, ok x) → p + ((xs.map L).flatten).length ≤ len → Lies f p ((xs.map L).flatten) → loopS rd xs.length acc ⟨p, false⟩ = (acc ++ xs, ⟨p + ((xs.map L).flatten).length, false⟩)
  | [], acc, p, _, _, _ => by simp [loopS]
  | x :: xs, acc, p, ha, hl, hh => by
    simp only [List.map_cons, List.flatten_cons, List.length_append] at hl hh ⊢
    rw [List.length_cons, loopS, h x p (ha x (by simp)) (by omega) hh.left]
    simp only [Bool.false_eq_true, if_false]
    rw [loop_back h xs _ _ (fun y hy => ha y (by simp [hy])) (by omega) hh.right, Nat.add_assoc]
    simp
theorem row_back {α : Type} {f : Nat → Int} {len : Nat} {rd : St → α × St} {L : α → List Int} {ok : α → Prop} (h : Back f len rd L ok) (most : Int) (hm : most ≤ 4294967295) : Back f len (rowS f len most rd) (rowL L) (fun l => (l.length : Int) ≤ most ∧ ∀ x ∈ l, ok x) := by
  intro xs p ⟨h1, h2⟩ hl hh
  unfold rowL at hl hh ⊢
  rw [List.length_append] at hl ⊢
  have e1 := num_back f len most hm (xs.length : Int) p ⟨by omega, h1⟩ (by omega) hh.left
  unfold rowS
  rw [e1]
  simp only [Int.toNat_natCast]
  rw [loop_back h xs [] _ h2 (by omega) hh.right, Nat.add_assoc]
  simp
def U32 (x : Int) : Prop := 0 ≤ x ∧ x ≤ 4294967295
/-- How small a right object is. -/
structure Small (o : Ob) : Prop where
  nm : (o.name.size : Int) ≤ 20
  key : U32 o.key
  im : (o.imps.length : Int) ≤ 16 ∧ ∀ x ∈ o.imps, (x.1.size : Int) ≤ 20 ∧ U32 x.2
  co : (o.code.length : Int) ≤ 65536 ∧ ∀ x ∈ o.code, U32 x
  pr : (o.procs.length : Int) ≤ 100 ∧ ∀ x ∈ o.procs, U32 x
  na : o.names.length = o.procs.length ∧ ∀ x ∈ o.names, (x.size : Int) ≤ 20
  ex : o.exps.length = o.procs.length
  ini : U32 o.ini
  va : (o.vars.length : Int) ≤ 200 ∧ ∀ x ∈ o.vars, U32 x
  sh : (o.shown.length : Int) ≤ 200 ∧ ∀ x ∈ o.shown, U32 x
  st : (o.strs.length : Int) ≤ 200 ∧ ∀ x ∈ o.strs, (x.size : Int) ≤ 200
  ds : (o.descs.length : Int) ≤ 200 ∧ ∀ x ∈ o.descs, U32 x.1 ∧ U32 x.2.1 ∧ (x.2.2.length : Int) ≤ 4 ∧ ∀ t ∈ x.2.2, U32 t
  fx : (o.fixes.length : Int) ≤ 65536 ∧ ∀ x ∈ o.fixes, U32 x.1 ∧ x.2.1 ≤ 255 ∧ (0 ≤ x.2.2.1 + 1 ∧ x.2.2.1 + 1 ≤ 16) ∧ U32 x.2.2.2
section
variable (f : Nat → Int) (len : Nat)
theorem imp_back (hl : len ≤ 1048576) : Back f len (impS f len) impL (fun x => (x.1.size : Int) ≤ 20 ∧ U32 x.2) := Back.as (Back.two (text_back f len hl 20) (word_backS f len)) id (fun s => rfl) (fun y hy => ⟨y, hy, rfl, rfl⟩)
theorem prc_back (hl : len ≤ 1048576) : Back f len (prcS f len) prcL (fun x => U32 x.1 ∧ (x.2.1.size : Int) ≤ 20) :=
  Back.as (Back.two (num_back f len 4294967295 (by omega)) (Back.two (text_back f len hl 20) (oct_back f len 1))) (fun x => (x.1, x.2.1, x.2.2 == 1)) (fun s => rfl) (fun y hy => ⟨(y.1, y.2.1, if y.2.2 then 1 else 0), ⟨hy.1, hy.2, by simp only; split <;> omega⟩, by obtain ⟨a, b, c⟩ := y; cases c <;> rfl, rfl⟩)
theorem dsc_back : Back f len (dscS f len) dscL (fun x => U32 x.1 ∧ U32 x.2.1 ∧ (x.2.2.length : Int) ≤ 4 ∧ ∀ t ∈ x.2.2, U32 t) :=
  Back.as (Back.two (num_back f len 4294967295 (by omega)) (Back.two (num_back f len 4294967295 (by omega)) (row_back (num_back f len 4294967295 (by omega)) 4 (by omega)))) id (fun s => rfl) (fun y hy => ⟨y, hy, rfl, rfl⟩)
theorem fix_back : Back f len (fixS f len) fixL (fun x => U32 x.1 ∧ x.2.1 ≤ 255 ∧ (0 ≤ x.2.2.1 + 1 ∧ x.2.2.1 + 1 ≤ 16) ∧ U32 x.2.2.2) :=
  Back.as (Back.two (num_back f len 4294967295 (by omega)) (Back.two (oct_back f len 255) (Back.two (num_back f len 16 (by omega)) (num_back f len 4294967295 (by omega))))) (fun x => (x.1, x.2.1, x.2.2.1 - 1, x.2.2.2)) (fun s => rfl) (fun y hy => ⟨(y.1, y.2.1, y.2.2.1 + 1, y.2.2.2), hy, by obtain ⟨a, b, c, d⟩ := y; simp, rfl⟩)
theorem obj_back (hl : len ≤ 1048576) : Back f len (objS f len) bodyL Small :=
  Back.as (Back.two (text_back f len hl 20) (Back.two (word_backS f len) (Back.two (row_back (imp_back f len hl) 16 (by omega)) (Back.two (row_back (word_backS f len) 65536 (by omega)) (Back.two (row_back (prc_back f len hl) 100 (by omega)) (Back.two (num_back f len 4294967295 (by omega)) (Back.two (row_back (num_back f len 4294967295 (by omega)) 200 (by omega)) (Back.two (row_back (num_back f len 4294967295 (by omega)) 200 (by omega)) (Back.two (row_back (text_back f len hl 200) 200 (by omega)) (Back.two (row_back (dsc_back f len) 200 (by omega)) (row_back (fix_back f len) 65536 (by omega))))))))))))
    (fun x => ⟨x.1, x.2.1, x.2.2.1, x.2.2.2.1, x.2.2.2.2.1.map (·.1), x.2.2.2.2.1.map (·.2.1), x.2.2.2.2.1.map (·.2.2), x.2.2.2.2.2.1, x.2.2.2.2.2.2.1, x.2.2.2.2.2.2.2.1, x.2.2.2.2.2.2.2.2.1, x.2.2.2.2.2.2.2.2.2.1, x.2.2.2.2.2.2.2.2.2.2⟩) (fun s => rfl) (fun o h => by
      have hpl : (prcsOf o).length = o.procs.length := by simp [prcsOf]
      have hget : ∀ (i : Nat) (hi : i < (prcsOf o).length), (prcsOf o)[i] = (o.procs.getD i 0, o.names.getD i ⟨#[]⟩, o.exps.getD i false) := fun i hi => by simp [prcsOf]
      refine ⟨(o.name, o.key, o.imps, o.code, prcsOf o, o.ini, o.vars, o.shown, o.strs, o.descs, o.fixes), ⟨h.nm, h.key, h.im, h.co, ⟨by rw [hpl]; exact h.pr.1, fun x hx => ?_⟩, h.ini, h.va, h.sh, h.st, h.ds, h.fx⟩, ?_, rfl⟩
      · have hx2 : x ∈ prcsOf o := hx
        obtain ⟨i, hi, rfl⟩ := List.getElem_of_mem hx2
        rw [hget]
        have hi1 : i < o.procs.length := by omega
        have hi2 : i < o.names.length := by rw [h.na.1]; exact hi1
        refine ⟨?_, ?_⟩
        · simp only [List.getD_eq_getElem?_getD, List.getElem?_eq_getElem hi1]; exact h.pr.2 _ (List.getElem_mem hi1)
        · simp only [List.getD_eq_getElem?_getD, List.getElem?_eq_getElem hi2]; exact h.na.2 _ (List.getElem_mem hi2)
      · have q1 : (prcsOf o).map (·.1) = o.procs := List.ext_getElem (by simp [hpl]) fun i h1 h2 => by rw [List.getElem_map, hget, List.getD_eq_getElem?_getD, List.getElem?_eq_getElem h2]; rfl
        have q2 : (prcsOf o).map (·.2.1) = o.names := List.ext_getElem (by simp [hpl, h.na.1]) fun i h1 h2 => by rw [List.getElem_map, hget]; simp only [List.getD_eq_getElem?_getD, List.getElem?_eq_getElem h2]; rfl
        have q3 : (prcsOf o).map (·.2.2) = o.exps := List.ext_getElem (by simp [hpl, h.ex]) fun i h1 h2 => by rw [List.getElem_map, hget]; simp only [List.getD_eq_getElem?_getD, List.getElem?_eq_getElem h2]; rfl
        simp only [q1, q2, q3])
end
end Go.Proofs.Ytjpaepmnmlpjkaa

namespace Go.Proofs.Ytjpaepmnmlpjkaa
set_option linter.unusedVariables false
set_option linter.unusedSimpArgs false

theorem eachB_get {n : Nat} {most : Int} {P : Nat → Bool} (h : eachB n most P = true) : (n : Int) ≤ most ∧ ∀ i, i < n → P i = true := by
  unfold eachB at h
  rw [Bool.and_eq_true] at h
  exact ⟨of_decide_eq_true h.1, fun i hi => List.all_eq_true.1 h.2 i (List.mem_range.2 hi)⟩
theorem all_get {α : Type} {l : List α} {d : α} {P : α → Prop} (h : ∀ i, i < l.length → P (l.getD i d)) : ∀ x ∈ l, P x := fun x hx => by
  obtain ⟨i, hi, rfl⟩ := List.getElem_of_mem hx
  have := h i hi
  rwa [getD_at l d i hi] at this
theorem fresh_size {N : List Bs} {s : ByteArray} (h : freshB N s = true) : (s.size : Int) ≤ 20 := by
  unfold freshB nameB at h
  simp only [Bool.and_eq_true, decide_eq_true_eq] at h
  omega
theorem from_get {n e : Int} (h : fromB n e = true) : 0 ≤ n ∧ n < e := by
  unfold fromB at h
  simp only [Bool.and_eq_true, decide_eq_true_eq] at h
  exact h
/-- What is found is there. -/
theorem found_get {ts : List Int} {t : Int} (h : foundB ts t = true) : t ∈ ts := by
  unfold foundB at h
  simp only [Bool.and_eq_true, decide_eq_true_eq] at h
  obtain ⟨h1, h2⟩ := h
  generalize srch (fun i => ts.getD i 0) t ts.length 0 ts.length = k at h1 h2
  have h3 : cmpI (ts.getD k 0) t = 0 := by simpa using h2
  have h4 : ts.getD k 0 = t := by
    unfold cmpI at h3
    split at h3
    · omega
    · split at h3 <;> omega
  rw [← h4, getD_at ts 0 k h1]
  exact List.getElem_mem h1
/-- The numbers of an object that has them as words. -/
structure Words (o : Ob) : Prop where
  key : U32 o.key
  im : ∀ x ∈ o.imps, U32 x.2
  co : ∀ x ∈ o.code, U32 x
/-- More of a right object's numbers. -/
structure Tight (o : Ob) : Prop where
  pr : ∀ x ∈ o.procs, 0 ≤ x ∧ x < 65536
  ini : 0 ≤ o.ini ∧ o.ini < 65536
  va : ∀ x ∈ o.vars, 0 ≤ x ∧ x ≤ 16384
  sh : ∀ x ∈ o.shown, 0 ≤ x ∧ x < 200
  ds : ∀ x ∈ o.descs, (0 ≤ x.1 ∧ x.1 < 200) ∧ (0 ≤ x.2.1 ∧ x.2.1 ≤ 16384) ∧ ∀ t ∈ x.2.2, 0 ≤ t ∧ t < 200
  fx : ∀ x ∈ o.fixes, (0 ≤ x.1 ∧ x.1 < 65536) ∧ (1 ≤ x.2.1 ∧ x.2.1 ≤ 5) ∧ (0 ≤ x.2.2.2 ∧ x.2.2.2 < 200)
theorem right_small {o : Ob} (h : rightB o = true) (hw : Words o) : Small o ∧ Tight o := by
  unfold rightB at h
  simp only [Bool.and_eq_true] at h
  obtain ⟨h1, h2, h3, h4, h5⟩ := h
  unfold headB at h1
  simp only [Bool.and_eq_true, decide_eq_true_eq] at h1
  obtain ⟨⟨⟨a1, a2⟩, a3⟩, a4⟩ := h1
  obtain ⟨b1, b2⟩ := eachB_get a2
  unfold procsB at h2
  simp only [Bool.and_eq_true, decide_eq_true_eq] at h2
  obtain ⟨⟨c1, c2⟩, c3, c4⟩ := h2
  obtain ⟨d1, d2⟩ := eachB_get c4
  obtain ⟨e1, e2⟩ := from_get c3
  unfold dataB at h3
  simp only [Bool.and_eq_true] at h3
  obtain ⟨⟨f1, f2⟩, f3⟩ := h3
  obtain ⟨g1, g2⟩ := eachB_get f1
  obtain ⟨i1, i2⟩ := eachB_get f2
  obtain ⟨j1, j2⟩ := eachB_get f3
  obtain ⟨k1, k2⟩ := eachB_get (show eachB o.descs.length 200 _ = true from h4)
  obtain ⟨l1, l2⟩ := eachB_get (show eachB o.fixes.length 65536 _ = true from h5)
  have him : ∀ x ∈ o.imps, (x.1.size : Int) ≤ 20 := all_get (d := (⟨#[]⟩, 0)) fun i hi => fresh_size (b2 i hi)
  have hpr : ∀ x ∈ o.procs, 0 ≤ x ∧ x < 65536 := all_get (d := 0) fun i hi => by
    have := d2 i hi
    simp only [Bool.and_eq_true] at this
    have := from_get this.1
    omega
  have hna : ∀ x ∈ o.names, (x.size : Int) ≤ 20 := all_get (d := ⟨#[]⟩) fun i hi => by
    have := d2 i (by omega)
    simp only [Bool.and_eq_true] at this
    exact fresh_size this.2
  have hva : ∀ x ∈ o.vars, 0 ≤ x ∧ x ≤ 16384 := all_get (d := 0) fun i hi => by
    have := g2 i hi
    unfold sizeB at this
    simp only [Bool.and_eq_true, decide_eq_true_eq] at this
    omega
  have hsh : ∀ x ∈ o.shown, 0 ≤ x ∧ x < 200 := all_get (d := 0) fun i hi => by
    have := i2 i hi
    unfold shownB at this
    simp only [Bool.and_eq_true] at this
    have := from_get this.1
    omega
  have hst : ∀ x ∈ o.strs, (x.size : Int) ≤ 200 := all_get (d := ⟨#[]⟩) fun i hi => of_decide_eq_true (j2 i hi)
  have hds0 : ∀ x ∈ o.descs, (0 ≤ x.1 ∧ x.1 < 200) ∧ (0 ≤ x.2.1 ∧ x.2.1 ≤ 16384) ∧ (x.2.2.length : Int) ≤ 4 ∧ ∀ t ∈ x.2.2, t ∈ o.descs.map (·.1) := all_get (d := (0, 0, [])) fun i hi => by
    have := k2 i hi
    unfold descB at this
    simp only [Bool.and_eq_true, decide_eq_true_eq] at this
    obtain ⟨m1, m2, _, m3, m4, _, m5⟩ := this
    unfold tagsB at m5
    simp only [Bool.and_eq_true, decide_eq_true_eq] at m5
    obtain ⟨⟨_, m6⟩, _⟩ := m5
    obtain ⟨n1, n2⟩ := eachB_get m6
    exact ⟨⟨by omega, m2⟩, ⟨m3, m4⟩, n1, all_get (d := 0) fun i hi => found_get (n2 i hi)⟩
  have hty : ∀ t ∈ o.descs.map (·.1), 0 ≤ t ∧ t < 200 := fun t ht => by
    obtain ⟨x, hx, rfl⟩ := List.mem_map.1 ht
    exact (hds0 x hx).1
  have hfx : ∀ x ∈ o.fixes, (0 ≤ x.1 ∧ x.1 < 65536) ∧ (1 ≤ x.2.1 ∧ x.2.1 ≤ 5) ∧ (0 ≤ x.2.2.1 + 1 ∧ x.2.2.1 + 1 ≤ 16) ∧ (0 ≤ x.2.2.2 ∧ x.2.2.2 < 200) := all_get (d := (0, 0, 0, 0)) fun i hi => by
    have := l2 i hi
    unfold fixB at this
    simp only [Bool.and_eq_true, Bool.or_eq_true] at this
    obtain ⟨m1, _, m2, m3⟩ := this
    have m4 := from_get m1
    refine ⟨?_, ?_, ?_, ?_⟩
    · split at m4 <;> omega
    · unfold thingB at m3
      split at m3
      · omega
      · split at m3
        · omega
        · split at m3
          · omega
          · split at m3
            · omega
            · cases m3
    · rcases m2 with e | e
      · have : (o.fixes.getD i (0, 0, 0, 0)).2.2.1 = -1 := by simpa using e
        omega
      · have := from_get e; omega
    · unfold thingB at m3
      split at m3
      · have := from_get m3; split at this <;> omega
      · split at m3
        · have := from_get m3; split at this <;> omega
        · split at m3
          · simp only [Bool.and_eq_true] at m3
            have := from_get m3.2; omega
          · split at m3
            · simp only [Bool.and_eq_true] at m3
              exact hty _ (found_get m3.2)
            · cases m3
  have u : ∀ x : Int, 0 ≤ x → x < 65536 → U32 x := fun x a b => ⟨a, by omega⟩
  refine ⟨⟨fresh_size a1, hw.key, ⟨b1, fun x hx => ⟨him x hx, hw.im x hx⟩⟩, ⟨a4, hw.co⟩, ⟨d1, fun x hx => u x (hpr x hx).1 (hpr x hx).2⟩, ⟨c1, hna⟩, c2, u _ e1 (by omega), ⟨g1, fun x hx => u x (hva x hx).1 (by have := (hva x hx).2; omega)⟩, ⟨i1, fun x hx => u x (hsh x hx).1 (by have := (hsh x hx).2; omega)⟩, ⟨j1, hst⟩, ⟨k1, fun x hx => ?_⟩, ⟨l1, fun x hx => ?_⟩⟩, ⟨hpr, ⟨e1, by omega⟩, hva, hsh, fun x hx => ⟨(hds0 x hx).1, (hds0 x hx).2.1, fun t ht => hty t ((hds0 x hx).2.2.2 t ht)⟩, fun x hx => ⟨(hfx x hx).1, (hfx x hx).2.1, (hfx x hx).2.2.2⟩⟩⟩
  · have := hds0 x hx
    exact ⟨u _ this.1.1 (by omega), u _ this.2.1.1 (by omega), this.2.2.1, fun t ht => u t (hty t (this.2.2.2 t ht)).1 (by have := (hty t (this.2.2.2 t ht)).2; omega)⟩
  · have := hfx x hx
    exact ⟨u _ this.1.1 this.1.2, by omega, this.2.2.1, u _ this.2.2.2.1 (by omega)⟩
theorem Small.fine {o : Ob} (h : Small o) (t : Tight o) : Fine o := by
  refine ⟨by have := h.nm; omega, ⟨by have := h.im.1; omega, fun x hx => by have := (h.im.2 x hx).1; omega⟩, by have := h.co.1; omega, ⟨by have := h.pr.1; omega, h.pr.2⟩, ⟨h.na.1, fun x hx => by have := h.na.2 x hx; omega⟩, h.ex, h.ini, ⟨by have := h.va.1; omega, h.va.2⟩, ⟨by have := h.sh.1; omega, h.sh.2⟩, ⟨by have := h.st.1; omega, fun x hx => by have := h.st.2 x hx; omega⟩, ⟨by have := h.ds.1; omega, fun x hx => ?_⟩, ⟨by have := h.fx.1; omega, fun x hx => ?_⟩⟩
  · have := h.ds.2 x hx
    exact ⟨this.1, this.2.1, by have := this.2.2.1; omega, this.2.2.2⟩
  · have := h.fx.2 x hx
    have t2 := t.fx x hx
    exact ⟨this.1, ⟨by omega, this.2.1⟩, ⟨by omega, by omega⟩, this.2.2.2⟩
/-! How long. -/
theorem num_1 (n : Int) (h : n < 128) : (numL 4 n).length = 1 := by rw [numL_small 4 n h]; rfl
theorem num_2 (n : Int) (h : n < 16384) : (numL 4 n).length ≤ 2 := by
  by_cases h1 : n < 128
  · rw [num_1 n h1]; omega
  · rw [numL_big 3 n h1, numL_small 3 _ (by omega)]; simp
theorem num_3 (n : Int) (h : n < 2097152) : (numL 4 n).length ≤ 3 := by
  by_cases h1 : n < 128
  · rw [num_1 n h1]; omega
  · rw [numL_big 3 n h1]
    by_cases h2 : n / 128 < 128
    · rw [numL_small 3 _ h2]; simp
    · rw [numL_big 2 _ h2, numL_small 2 _ (by omega)]; simp
theorem flat_le {α : Type} (L : α → List Int) (M : Nat) : ∀ (l : List α), (∀ x ∈ l, (L x).length ≤ M) → ((l.map L).flatten).length ≤ l.length * M
  | [], _ => by simp
  | x :: r, h => by
    have h1 := h x (by simp)
    have h2 := flat_le L M r (fun y hy => h y (by simp [hy]))
    simp only [List.map_cons, List.flatten_cons, List.length_append, List.length_cons]
    rw [Nat.add_mul]
    omega
theorem row_le {α : Type} (L : α → List Int) (M K k : Nat) (l : List α) (hk : l.length ≤ K) (hn : (numL 4 (l.length : Int)).length ≤ k) (h : ∀ x ∈ l, (L x).length ≤ M) : (rowL L l).length ≤ k + K * M := by
  unfold rowL
  rw [List.length_append]
  have h1 := flat_le L M l h
  have h2 := Nat.mul_le_mul_right M hk
  omega
theorem text_le {s : ByteArray} {M : Nat} (h : s.size ≤ M) (hM : M < 128) : (textL s).length ≤ M + 1 := by
  unfold textL
  rw [List.length_append, sL_len, num_1 _ (by omega)]
  omega
theorem text_le2 {s : ByteArray} (h : s.size ≤ 200) : (textL s).length ≤ 202 := by
  unfold textL
  rw [List.length_append, sL_len]
  have := num_2 ((s.size : Int) % 4294967296) (by omega)
  omega
theorem body_le {o : Ob} (h : Small o) (t : Tight o) : (bodyL o).length ≤ 1000000 := by
  have hpl : (prcsOf o).length = o.procs.length := by simp [prcsOf]
  have w4 : ∀ x, (wdL x).length = 4 := fun _ => rfl
  have n0 : (textL o.name).length ≤ 21 := text_le (by have := h.nm; omega) (by omega)
  have n2 := row_le impL 25 16 1 o.imps (by have := h.im.1; omega) (by rw [num_1 _ (by have := h.im.1; omega)]; omega) (fun x hx => by unfold impL; rw [List.length_append, w4]; have := text_le (s := x.1) (M := 20) (by have := (h.im.2 x hx).1; omega) (by omega); omega)
  have n3 := row_le wdL 4 65536 3 o.code (by have := h.co.1; omega) (num_3 _ (by have := h.co.1; omega)) (fun x hx => by rw [w4]; omega)
  have n4 := row_le prcL 25 100 1 (prcsOf o) (by rw [hpl]; have := h.pr.1; omega) (by rw [hpl, num_1 _ (by have := h.pr.1; omega)]; omega) (fun x hx => by
    obtain ⟨i, hi, rfl⟩ := List.getElem_of_mem hx
    rw [prcs_at]
    have hi1 : i < o.procs.length := by omega
    have hi2 : i < o.names.length := by rw [h.na.1]; exact hi1
    unfold prcL
    simp only [List.length_append, List.length_cons, List.length_nil]
    have a1 := num_3 (o.procs.getD i 0) (by rw [getD_at _ _ i hi1]; have := (t.pr _ (List.getElem_mem hi1)).2; omega)
    have a2 := text_le (s := o.names.getD i ⟨#[]⟩) (M := 20) (by rw [getD_at _ _ i hi2]; have := h.na.2 _ (List.getElem_mem hi2); omega) (by omega)
    omega)
  have n5 := num_3 o.ini (by have := t.ini.2; omega)
  have n6 := row_le (numL 4) 3 200 2 o.vars (by have := h.va.1; omega) (num_2 _ (by have := h.va.1; omega)) (fun x hx => num_3 x (by have := (t.va x hx).2; omega))
  have n7 := row_le (numL 4) 2 200 2 o.shown (by have := h.sh.1; omega) (num_2 _ (by have := h.sh.1; omega)) (fun x hx => num_2 x (by have := (t.sh x hx).2; omega))
  have n8 := row_le textL 202 200 2 o.strs (by have := h.st.1; omega) (num_2 _ (by have := h.st.1; omega)) (fun x hx => text_le2 (by have := h.st.2 x hx; omega))
  have n9 := row_le dscL 14 200 2 o.descs (by have := h.ds.1; omega) (num_2 _ (by have := h.ds.1; omega)) (fun x hx => by
    have s1 := h.ds.2 x hx
    have s2 := t.ds x hx
    unfold dscL
    simp only [List.length_append]
    have a1 := num_2 x.1 (by omega)
    have a2 := num_3 x.2.1 (by omega)
    have a3 := row_le (numL 4) 2 4 1 x.2.2 (by have := s1.2.2.1; omega) (by rw [num_1 _ (by have := s1.2.2.1; omega)]; omega) (fun t ht => num_2 t (by have := (s2.2.2 t ht).2; omega))
    omega)
  have n10 := row_le fixL 7 65536 3 o.fixes (by have := h.fx.1; omega) (num_3 _ (by have := h.fx.1; omega)) (fun x hx => by
    have s1 := h.fx.2 x hx
    have s2 := t.fx x hx
    unfold fixL
    simp only [List.length_append, List.length_cons, List.length_nil]
    have a1 := num_3 x.1 (by omega)
    have a2 := num_1 (x.2.2.1 + 1) (by omega)
    have a3 := num_2 x.2.2.2 (by omega)
    omega)
  have hb : (bodyL o).length = (textL o.name).length + 4 + (rowL impL o.imps).length + (rowL wdL o.code).length + (rowL prcL (prcsOf o)).length + (numL 4 o.ini).length + (rowL (numL 4) o.vars).length + (rowL (numL 4) o.shown).length + (rowL textL o.strs).length + (rowL dscL o.descs).length + (rowL fixL o.fixes).length := by unfold bodyL; simp only [List.length_append, w4]; omega
  rw [hb]
  omega
end Go.Proofs.Ytjpaepmnmlpjkaa

namespace Go.Proofs.Ytjpaepmnmlpjkaa
set_option linter.unusedVariables false
set_option linter.unusedSimpArgs false
open Go.ChangeShapes Go.WideShapes Go.ChangeAt Go.RowKit
attribute [local go_sem ↓] loadO_seal storeO_seal

theorem objL_len (o : Ob) : (objL o).length = (bodyL o).length + 4 + 4 := by
  unfold objL
  rw [List.length_append, List.length_append]
  have h1 : markL.length = 4 := rfl
  have h2 : ∀ x, (wdL x).length = 4 := fun _ => rfl
  rw [h1, h2]
  omega
theorem mark_nums : strOfNums markL = markS := by decide
theorem bl_lies {f : Nat → Int} {l : List Int} (h : Lies f 0 l) : bl f l.length = l := by
  refine List.ext_getElem (by simp [bl]) fun i h1 h2 => ?_
  have := h i h2
  rw [Nat.zero_add, List.getD_eq_getElem?_getD, List.getElem?_eq_getElem h2] at this
  simpa [bl] using this
theorem body_read {f : Nat → Int} {e : Nat} {o : Ob} (hs : Small o) (h : Lies f 0 (markL ++ bodyL o)) (he : (bodyL o).length + 4 ≤ e) (he2 : e ≤ 1048576) : strOfNums (bl f 4) = markS ∧ objS f e ⟨4, false⟩ = (o, ⟨4 + (bodyL o).length, false⟩) := by
  refine ⟨?_, ?_⟩
  · have := bl_lies h.left
    rw [show markL.length = 4 from rfl] at this
    rw [this, mark_nums]
  · have hb := h.right
    rw [show 0 + markL.length = 4 from rfl] at hb
    exact obj_back f e he2 o 4 hs (by omega) hb
theorem got_back {f : Nat → Int} {len p : Nat} {x : Int} (hx : U32 x) (hl : p + 4 ≤ len) (h : Lies f p (wdL x)) : gotW len f (p : Int) = x := by
  have hb := word_backS f len x p hx hl h
  have hfit : fits len (p : Int) = true := by unfold fits; exact decide_eq_true (by omega)
  unfold wordS at hb
  simp only [hfit, Bool.not_false, Bool.and_self, if_true] at hb
  exact (Prod.mk.inj hb).1
theorem dec_of {f : Nat → Int} {o : Ob} (hr : rightB o = true) (hs : Small o) (ht : Tight o) (h : Lies f 0 (objL o)) : decR f (objL o).length = (0, 0) ∧ (objS f ((objL o).length - 4) ⟨4, false⟩).1 = o := by
  have hl := objL_len o
  have hbl := body_le hs ht
  have hm : Lies f 0 (markL ++ bodyL o) := by unfold objL at h; exact h.left
  obtain ⟨h1, h2⟩ := body_read (e := (objL o).length - 4) hs hm (by omega) (by omega)
  have hw : Lies f ((objL o).length - 4) (wdL (fnv (fun i => (markL ++ bodyL o).getD i 0) (markL ++ bodyL o).length)) := by
    have := h
    unfold objL at this
    have h3 := this.right
    rw [show 0 + (markL ++ bodyL o).length = (objL o).length - 4 by rw [List.length_append, show markL.length = 4 from rfl]; omega] at h3
    exact h3
  have hfn : fnv (fun i => (markL ++ bodyL o).getD i 0) (markL ++ bodyL o).length = fnv f ((objL o).length - 4) := by
    rw [show (markL ++ bodyL o).length = (objL o).length - 4 by rw [List.length_append, show markL.length = 4 from rfl]; omega]
    refine (fnv_eq _ _ _ fun i hi => ?_).symm
    have := hm i (by rw [List.length_append, show markL.length = 4 from rfl]; omega)
    rw [Nat.zero_add] at this
    exact this
  rw [hfn] at hw
  have hbd := fnv_bd f ((objL o).length - 4)
  have hg : gotW (objL o).length f (((objL o).length - 4 : Nat) : Int) = fnv f ((objL o).length - 4) := by
    exact got_back hbd (by omega) hw
  refine ⟨?_, by rw [h2]⟩
  unfold decR
  rw [if_pos ⟨by omega, by omega, h1⟩, if_pos hg, h2]
  simp only
  rw [if_neg (by simp; omega), if_pos hr]
theorem dec_more {f : Nat → Int} {o : Ob} {len : Nat} (hs : Small o) (ht : Tight o) (h : Lies f 0 (markL ++ bodyL o)) (hlen : (bodyL o).length + 8 < len) : (decR f len).2 ≠ 0 := by
  unfold decR
  split
  · rename_i h1
    split
    · obtain ⟨_, h2⟩ := body_read (e := len - 4) hs h (by omega) (by omega)
      rw [h2]
      simp only
      rw [if_pos (Or.inr (by omega))]
      simp
    · simp
  · simp
theorem lies_self (l : List Int) : Lies (fun i => l.getD i 0) 0 l := fun j hj => by rw [Nat.zero_add]
theorem lies_pre {f : Nat → Int} {a b : List Int} (h : Lies f 0 (a ++ b)) : Lies f 0 a := h.left
/-- A row of bytes of the call's own, as one that is handed on. -/
theorem ow_src {X : World} {B : Nat} {a : Option Addr} {n c : Nat} {l : List Int} (h : Ow X B (.slice a n c) l) (hb : AllB l) (hl : l.length ≤ 140737488351232) : Src X a n c (fun i => l.getD i 0) ∧ n = l.length ∧ n ≤ c := by
  have hn : n = l.length ∧ n ≤ c ∧ (a = none → n = 0 ∧ c = 0) := by
    unfold Ow at h
    rcases h.2 with ⟨hv, h0⟩ | ⟨g', cap, cur, hv, _, _, hc, _⟩
    · injection hv with e1 e2 e3; exact ⟨by omega, by omega, fun _ => ⟨by omega, by omega⟩⟩
    · injection hv with e1 e2 e3; exact ⟨e2, by rw [e2, e3]; exact hc, fun e => by rw [e] at e1; cases e1⟩
  refine ⟨⟨⟨by unfold maxLen; omega, ?_⟩, hn.2.2, by omega⟩, hn.1, hn.2.1⟩
  by_cases h0 : l = []
  · subst h0; exact .inl hn.1
  · obtain ⟨g, c2, hv, _, _⟩ := ow_at h h0
    injection hv with e1 e2 e3
    subst e1
    refine .inr ⟨g, 0, rfl, fun i hi => ?_⟩
    rw [hn.1] at hi
    have hm : l.getD i 0 ∈ l := by rw [List.getD_eq_getElem?_getD, List.getElem?_eq_getElem hi]; exact List.getElem_mem hi
    rw [Nat.zero_add]
    exact ⟨(ow_cell h i hi).1, hb _ hm⟩
def mkN (t : TypeId) (l c : Value) : Sem Value := Instr.makeSlice t l c
theorem mkN_seal (t : TypeId) (l c : Value) : Instr.makeSlice t l c = mkN t l c := rfl
theorem make_row (X : World) (B c : Nat) (hB : B ≤ X.heap.size) (hc : c ≤ 200000000000000) : ∃ Y, (mkN 35 (.int .i64 0) (.int .i64 (c : Int))).run Try.prog X = .ok (.slice (some ⟨X.heap.size, 0, none⟩) 0 c) Y ∧ Ow Y B (.slice (some ⟨X.heap.size, 0, none⟩) 0 c) [] ∧ X.grownBy Y none := by
  obtain ⟨i0, hi0, hz0, hz1, hz2⟩ := info_parts info5
  exact run_make_own (P := Try.prog) X B 35 5 i0 (.int .u8 0) 1 Try.underlying35 hi0 hz0 hz1 .i64 .i64 c (by rw [hz2]; omega) (by unfold maxLen; omega) hB
/-- Bytes put behind a row of the call's own. -/
theorem app_bytes {X : World} {B : Nat} {v : Value} {l : List Int} (a : Option Addr) (m c : Nat) (f : Nat → Int) (h : Ow X B v l) (hr : RdB X a m f) (hnil : a = none → m = 0 ∧ c = 0) (hB : B ≤ X.heap.size) (hn : l.length + m ≤ 200000000000000) (hl : 0 < l.length ∨ 0 < m) :
    ∃ (v' : Value) (Y : World), (appN #[35, 35] 35 #[v, .slice a m c]).run Try.prog X = .ok v' Y ∧ Ow Y B v' (l ++ bl f m) ∧ X.grownBy Y v.ownBlock := by
  obtain ⟨i0, hi0, hz0, hz1, hz2⟩ := info_parts info5
  by_cases hm : m = 0
  · subst hm
    have hv : ∃ g k, v = .slice (some ⟨g, 0, none⟩) l.length k ∧ l.length ≤ k := by
      unfold Ow at h
      rcases h.2 with ⟨hv, h0⟩ | ⟨g', cap, cur, hv, _, _, hc, _⟩
      · omega
      · exact ⟨g', cap, hv, hc⟩
    obtain ⟨g, k, rfl, hk⟩ := hv
    refine ⟨_, X, ?_, by simpa [bl] using h, ⟨rfl, rfl, rfl, Nat.le_refl _, fun _ _ _ => rfl⟩⟩
    unfold appN
    cases a with
    | none => simp [Builtin.append_, run_underlying Try.underlying35, sizeOf, typeInfo, hi0, hz1, Builtin.lenOf, hk, run_firstCells_none, storeCells, Addr.add_lit]
    | some ad => simp [Builtin.append_, run_underlying Try.underlying35, sizeOf, typeInfo, hi0, hz1, Builtin.lenOf, hk, Builtin.firstCells, loadCells, loadCellsFrom, storeCells, Addr.add_lit]
  · obtain ⟨b, off, rfl, hc⟩ : ∃ b off, a = some ⟨b, off, none⟩ ∧ ∀ i, i < m → X.cell? ⟨b, off + i, none⟩ = some (.int .u8 (f i)) := by
      rcases hr.2 with h0 | ⟨b, off, e, h1⟩
      · omega
      · exact ⟨b, off, e, fun i hi => (h1 i hi).1⟩
    obtain ⟨v', Y, h1, h2, h3, _⟩ := run_append_own_wide (P := Try.prog) X B 35 35 5 i0 (.int .u8 0) 1 1 Try.underlying35 hi0 hz0 hz1 hz2 rfl (by decide) v l.length (u8s l) h ⟨b, off, none⟩ m c (u8s (bl f m)) (by simp [u8s_len, bl_len]) (fun j u hu => by
      have hj : j < m := by have := (List.getElem?_eq_some_iff.1 hu).1; rwa [u8s_len, bl_len] at this
      rw [Go.WideShapes.add_plain, hc j hj, ← hu]
      simp [u8s, bl, hj]) (u8s_one _) (by unfold maxLen; omega) (by omega) hB
    refine ⟨v', Y, h1, ?_, h3⟩
    unfold Ow
    rw [List.length_append, bl_len, u8s_app]
    exact h2
end Go.Proofs.Ytjpaepmnmlpjkaa

namespace Go.Proofs.Ytjpaepmnmlpjkaa
set_option linter.unusedVariables false
set_option linter.unusedSimpArgs false
open Go.ChangeShapes Go.WideShapes Go.ChangeAt Go.RowKit
attribute [local go_sem ↓] appN_seal mkN_seal

theorem made4 : (madeCells (Value.int .u8 0).cells (4 * 1)).toList = u8s [0, 0, 0, 0] := by kernel_rfl
theorem make_four (X : World) (B : Nat) (hB : B ≤ X.heap.size) : ∃ Y, (mkN 35 (.int .i64 4) (.int .i64 4)).run Try.prog X = .ok (.slice (some ⟨X.heap.size, 0, none⟩) 4 4) Y ∧ Ow Y B (.slice (some ⟨X.heap.size, 0, none⟩) 4 4) [0, 0, 0, 0] ∧ X.grownBy Y none := by
  obtain ⟨i0, hi0, hz0, hz1, hz2⟩ := info_parts info5
  obtain ⟨Y, h1, h2, h3⟩ := run_make_full (P := Try.prog) X B 35 5 i0 (.int .u8 0) 1 Try.underlying35 hi0 hz0 hz1 .i64 .i64 4 (by rw [hz2]; omega) (by unfold maxLen; omega) hB
  rw [made4] at h2
  exact ⟨Y, h1, h2, h3⟩
theorem gb_none {X Y : World} (h : X.grownBy Y none) : Below X.heap.size X Y := ⟨h.os, h.tape, h.output, h.size, fun k hk => h.block k hk (by simp)⟩
theorem gb_low {w X Y : World} {o : Option Nat} (h : Below w.heap.size w X) (hg : X.grownBy Y o) (ho : ∀ k, o = some k → w.heap.size ≤ k) : Below w.heap.size w Y := ⟨hg.os.trans h.os, hg.tape.trans h.tape, hg.output.trans h.output, Nat.le_trans h.size hg.size, fun k hk => (hg.block k (Nat.lt_of_lt_of_le hk h.size) (fun e => by have := ho k e.symm; omega)).trans (h.block k hk)⟩
set_option maxHeartbeats 4000000 in
set_option maxRecDepth 20000 in
theorem summed_any (w : World) (b off len cap : Nat) (f : Nat → Int) (h : RdB w (some ⟨b, off, none⟩) len f) (hbl : b < w.heap.size) (h0 : 0 < len) (hl : len ≤ 150000000000000) : Calls Try.prog 17 #[.slice (some ⟨b, off, none⟩) len cap] w fun e w' => ∃ v, e = .returned v ∧ Ow w' w.heap.size v (bl f len ++ wdL (fnv f len)) ∧ Below w.heap.size w w' := by
  obtain ⟨Y1, r1, o1, g1⟩ := make_four w w.heap.size (Nat.le_refl _)
  have bY1 : Below w.heap.size w Y1 := gb_none g1
  have y1s : w.heap.size < Y1.heap.size := (World.ownsRow.lt o1 _ rfl).2
  have SM : Hid (Calls Try.prog 30 #[.slice (some ⟨b, off, none⟩) len cap] Y1 fun e w' => e = .returned (.int .u32 (fnv f len)) ∧ w' = Y1) := sum_any _ len cap f Y1 (h.below bY1)
  have PU : Hid (Calls Try.prog 39 #[.slice (some ⟨w.heap.size, 0, none⟩) 4 4, .int .i64 0, .int .u32 (fnv f len)] Y1 fun e Y2 => e = .returned (.bool true) ∧ ∃ Y3 Y4 v4 Y5 v5, (mkN 35 (.int .i64 0) (.int .i64 ((len : Int) + 4))).run Try.prog Y2 = .ok (.slice (some ⟨Y2.heap.size, 0, none⟩) 0 (len + 4)) Y3 ∧ (appN #[35, 35] 35 #[.slice (some ⟨Y2.heap.size, 0, none⟩) 0 (len + 4), .slice (some ⟨b, off, none⟩) len cap]).run Try.prog Y3 = .ok v4 Y4 ∧ (appN #[35, 35] 35 #[v4, .slice (some ⟨w.heap.size, 0, none⟩) 4 4]).run Try.prog Y4 = .ok v5 Y5 ∧ Hid (Ow Y5 w.heap.size v5 (bl f len ++ wdL (fnv f len)) ∧ Below w.heap.size w Y5)) := by
    have hp := put_own w.heap.size w.heap.size 4 [] (fnv f len) Y1 o1 (by simp)
    refine (show Calls Try.prog 39 #[.slice (some ⟨w.heap.size, 0, none⟩) 4 4, .int .i64 0, .int .u32 (fnv f len)] Y1 _ from hp).mono fun e Y2 hh => ⟨hh.1, ?_⟩
    have o2 : Ow Y2 w.heap.size (.slice (some ⟨w.heap.size, 0, none⟩) 4 4) (wdL (fnv f len)) := hh.2.1
    have bY2 : Below w.heap.size w Y2 := gb_low bY1 hh.2.2 (fun k e => by injection e with e; omega)
    have y2s : Y1.heap.size ≤ Y2.heap.size := hh.2.2.size
    obtain ⟨Y3, r3, o3, g3⟩ := make_row Y2 w.heap.size (len + 4) bY2.size (by omega)
    have bY3 : Below w.heap.size w Y3 := bY2.trans ((gb_none g3).mono bY2.size)
    obtain ⟨v4, Y4, r4, o4, g4⟩ := app_bytes (X := Y3) (some ⟨b, off, none⟩) len cap f o3 (h.below bY3) (fun e => by cases e) bY3.size (by simp; omega) (.inr h0)
    have bY4 : Below w.heap.size w Y4 := gb_low bY3 g4 (fun k e => own_lo o3 k e)
    have o3b : Ow Y3 w.heap.size (.slice (some ⟨w.heap.size, 0, none⟩) 4 4) (wdL (fnv f len)) := World.ownsRow.kept (row := none) o2 g3 (by simp [Value.ownBlock])
    have o4b : Ow Y4 w.heap.size (.slice (some ⟨w.heap.size, 0, none⟩) 4 4) (wdL (fnv f len)) := World.ownsRow.kept o3b g4 (by simp [Value.ownBlock]; omega)
    obtain ⟨s4, _, _⟩ := ow_src o4b (wd_by _) (by simp [wdL])
    obtain ⟨v5, Y5, r5, o5, g5⟩ := app_bytes (X := Y4) (some ⟨w.heap.size, 0, none⟩) 4 4 _ o4 s4.rd (fun e => by cases e) bY4.size (by simp [bl_len]; omega) (.inr (by omega))
    have hw4 : bl (fun i => (wdL (fnv f len)).getD i 0) 4 = wdL (fnv f len) := rfl
    rw [List.nil_append, hw4] at o5
    exact ⟨Y3, Y4, v4, Y5, v5, by simpa using r3, r4, r5, o5, gb_low bY4 g5 (fun k e => own_lo o4 k e)⟩
  have e1 : IntKind.i64.wrap ((len : Int) + 4) = (len : Int) + 4 := by rw [IntWalk.i64_left, IntWalk.wrap64_in] <;> omega
  generalize fnv f len = sm at *
  clear h o1 g1 bY1 y1s
  go_enter Try.func17, Try.ntmps17
  go_wp2_with (first
    | (go_at_call 30; refine SM.out.mono ?_; rintro e w1 ⟨rfl, hw⟩; rw [hw]; clear hw)
    | (go_at_call 39; refine PU.out.mono ?_; rintro e w2 ⟨rfl, Y3, Y4, v4, Y5, v5, r3, r4, r5, HO⟩))
  go_ret
  exact ⟨_, rfl, HO.out⟩
end Go.Proofs.Ytjpaepmnmlpjkaa

namespace Go.Proofs.Ytjpaepmnmlpjkaa
set_option linter.unusedVariables false
set_option linter.unusedSimpArgs false
open Go.ChangeShapes Go.WideShapes Go.ChangeAt Go.RowKit

/-- Two rows that hold the same, at a place. -/
theorem two_at {X : World} {α : Type} {val : α → Value} {s t : Sl} {l : List α} (h : RdV X 1 s l.length (l.map val)) (g : RdV X 1 t l.length (l.map val)) (i : Nat) (hi : i < l.length) : ∃ b off b2 off2, s.a = some ⟨b, off, none⟩ ∧ t.a = some ⟨b2, off2, none⟩ ∧ ∀ Y, Below X.heap.size X Y → Y.cell? ⟨b, off + i, none⟩ = some (val l[i]) ∧ Y.cell? ⟨b2, off2 + i, none⟩ = some (val l[i]) := by
  rcases h.at_ with h0 | ⟨b, off, h1, _, _⟩
  · omega
  rcases g.at_ with h0 | ⟨b2, off2, g1, _, _⟩
  · omega
  have hu : (l.map val)[i]? = some (val l[i]) := by rw [List.getElem?_map, List.getElem?_eq_getElem hi]; rfl
  exact ⟨b, off, b2, off2, h1, g1, fun Y hY => ⟨(h.below hY).cell h1 (by omega) hu, (g.below hY).cell g1 (by omega) hu⟩⟩
set_option maxHeartbeats 4000000 in
set_option maxRecDepth 20000 in
theorem ints_eq (w : World) (s t : Sl) (l : List Int) (h : RdV w 1 s l.length (l.map (Value.int .i64))) (g : RdV w 1 t l.length (l.map (Value.int .i64))) : Calls Try.prog 27 #[.slice s.a s.n s.c, .slice t.a t.n t.c] w fun e w' => e = .returned (.bool true) ∧ Below w.heap.size w w' := by
  have hm := h.most
  have hs := h.len
  have ht := g.len
  have TW : Hid (∀ i (hi : i < l.length), ∃ b off b2 off2, s.a = some ⟨b, off, none⟩ ∧ t.a = some ⟨b2, off2, none⟩ ∧ ∀ Y, Below w.heap.size w Y → Y.cell? ⟨b, off + i, none⟩ = some (.int .i64 l[i]) ∧ Y.cell? ⟨b2, off2 + i, none⟩ = some (.int .i64 l[i])) := fun i hi => two_at h g i hi
  obtain ⟨sa, sn, sc⟩ := s
  obtain ⟨ta, tn, tc⟩ := t
  simp only at *
  obtain ⟨n, hn⟩ : ∃ n, n = l.length := ⟨_, rfl⟩
  have HN : Hid (n = l.length) := hn
  rw [← hn] at hm hs ht
  subst hs ht
  clear h g hn
  have e0 : ((tn : Int) != (tn : Int)) = false := by simp
  go_enter Try.func27, Try.ntmps27
  go_wp2
  go_loopg [5] tn (fun gf s5 wx => ∃ i : Nat, s5 = .int .i64 (i : Int) ∧ i + gf = tn ∧ Hid (Below w.heap.size w wx))
  case atStart => exact ⟨0, rfl, by omega, Below.refl _ _⟩
  case round =>
    obtain ⟨i, rfl, hi, HB⟩ := hrel
    by_cases hlt : i < tn
    · obtain ⟨g', rfl⟩ : ∃ g', gk = g' + 1 := ⟨gk - 1, by omega⟩
      have d1 : decide ((i : Int) < (tn : Int)) = true := decide_eq_true (by omega)
      have j0 : (0 : Int) ≤ (i : Int) := by omega
      have j1 : (i : Int) < (tn : Int) := by omega
      have hil : i < l.length := by rw [← HN.out]; exact hlt
      obtain ⟨b, off, b2, off2, rfl, rfl, hc⟩ := TW.out i hil
      obtain ⟨k0, k1⟩ := hc wr HB.out
      generalize l[i] = y at k0 k1
      clear hc TW
      have e1 : (y != y) = false := by simp
      go_wp2
      go_region
      all_goals
        go_wp2
        go_roundg g'
        case measure => omega
        case rel => exact ⟨i + 1, by simp, by omega, HB.out.drew⟩
    · have d1 : decide ((i : Int) < (tn : Int)) = false := decide_eq_false (by omega)
      go_wp2
      go_ret
      exact ⟨rfl, HB.out⟩
end Go.Proofs.Ytjpaepmnmlpjkaa

namespace Go.Proofs.Ytjpaepmnmlpjkaa
set_option linter.unusedVariables false
set_option linter.unusedSimpArgs false
open Go.ChangeShapes Go.WideShapes Go.ChangeAt Go.RowKit
attribute [local go_sem ↓] loadO_seal

/-- Two rows of things of several cells that hold the same, at a place. -/
theorem two_many {X : World} {α : Type} {enc enc2 : α → Array Value} {k : Nat} {s t : Sl} {l l2 : List α} (he : ∀ x, (enc x).size = k) (h : RdV X k s l.length (flat enc l)) (g : RdV X k t l2.length (flat enc l2)) (i : Nat) (hi : i < l.length) (hi2 : i < l2.length) : ∃ b off b2 off2, s.a = some ⟨b, off, none⟩ ∧ t.a = some ⟨b2, off2, none⟩ ∧ ∀ Y, Below X.heap.size X Y → ∀ m (hm : m < k), Y.cell? ⟨b, off + (i * k + m), none⟩ = (enc l[i])[m]? ∧ Y.cell? ⟨b2, off2 + (i * k + m), none⟩ = (enc l2[i])[m]? := by
  rcases h.at_ with h0 | ⟨b, off, h1, _, _⟩
  · omega
  rcases g.at_ with h0 | ⟨b2, off2, g1, _, _⟩
  · omega
  refine ⟨b, off, b2, off2, h1, g1, fun Y hY m hm => ?_⟩
  have e1 := flat_at enc k he l i hi m hm
  have e2 := flat_at enc k he l2 i hi2 m hm
  have q1 : (enc l[i])[m]? = some ((enc l[i])[m]'(by rw [he]; exact hm)) := Array.getElem?_eq_getElem _
  have q2 : (enc l2[i])[m]? = some ((enc l2[i])[m]'(by rw [he]; exact hm)) := Array.getElem?_eq_getElem _
  rw [q1] at e1 ⊢
  rw [q2] at e2 ⊢
  exact ⟨(h.below hY).cell h1 (by omega) e1, (g.below hY).cell g1 (by omega) e2⟩
/-- Both objects, each in a box. -/
structure SI (w X : World) (c d : Oc) : Prop where
  b1 : OAt X w.heap.size c
  b2 : OAt X (w.heap.size + 1) d
  be : Below w.heap.size w X
theorem SI.below {w X Y : World} {c d : Oc} (h : SI w X c d) (hb : Below X.heap.size X Y) : SI w Y c d := ⟨(hb.block _ h.b1.lt).trans h.b1, (hb.block _ h.b2.lt).trans h.b2, h.be.trans (hb.mono (Nat.le_of_lt h.b1.lt))⟩
theorem SI.drew {w X : World} {c d : Oc} (h : SI w X c d) : SI w X.drew c d := h.below (Below.refl _ _).drew
theorem SI.start (w : World) (c d : Oc) : SI w ((w.alloc (.cells c.cells 31)).alloc (.cells d.cells 31)) c d := by
  refine ⟨?_, ?_, by go_grown⟩
  · exact (Below.heap_alloc _ _ _ (by simp)).trans (blk_new _ _)
  · have := blk_new (w.alloc (.cells c.cells 31)) (.cells d.cells 31)
    rw [show (w.alloc (.cells c.cells 31)).heap.size = w.heap.size + 1 by simp] at this
    exact this
set_option maxHeartbeats 16000000 in
set_option maxRecDepth 20000 in
theorem procs_eq (w : World) (c d : Oc) (o : Ob) (h : ObR w c o) (g : ObR w d o) : Calls Try.prog 28 #[.agg c.cells, .agg d.cells] w fun e w' => e = .returned (.bool true) ∧ Below w.heap.size w w' := by
  have I4 : Hid (∀ X, SI w X c d → Calls Try.prog 27 #[.slice c.pr.a c.pr.n c.pr.c, .slice d.pr.a d.pr.n d.pr.c] X fun e Y => e = .returned (.bool true) ∧ SI w Y c d) := fun X hX => (ints_eq X c.pr d.pr o.procs (h.pr.below hX.be) (g.pr.below hX.be)).mono fun e Y hh => ⟨hh.1, hX.below hh.2⟩
  have I8 : Hid (∀ X, SI w X c d → Calls Try.prog 27 #[.slice c.va.a c.va.n c.va.c, .slice d.va.a d.va.n d.va.c] X fun e Y => e = .returned (.bool true) ∧ SI w Y c d) := fun X hX => (ints_eq X c.va d.va o.vars (h.va.below hX.be) (g.va.below hX.be)).mono fun e Y hh => ⟨hh.1, hX.below hh.2⟩
  have I9 : Hid (∀ X, SI w X c d → Calls Try.prog 27 #[.slice c.sh.a c.sh.n c.sh.c, .slice d.sh.a d.sh.n d.sh.c] X fun e Y => e = .returned (.bool true) ∧ SI w Y c d) := fun X hX => (ints_eq X c.sh d.sh o.shown (h.sh.below hX.be) (g.sh.below hX.be)).mono fun e Y hh => ⟨hh.1, hX.below hh.2⟩
  have Tna : Hid (∀ i (hi : i < o.names.length), ∃ b off b2 off2, c.na.a = some ⟨b, off, none⟩ ∧ d.na.a = some ⟨b2, off2, none⟩ ∧ ∀ Y, Below w.heap.size w Y → Y.cell? ⟨b, off + i, none⟩ = some (.string o.names[i]) ∧ Y.cell? ⟨b2, off2 + i, none⟩ = some (.string o.names[i])) := fun i hi => two_at h.na g.na i hi
  have Tex : Hid (∀ i (hi : i < o.exps.length), ∃ b off b2 off2, c.ex.a = some ⟨b, off, none⟩ ∧ d.ex.a = some ⟨b2, off2, none⟩ ∧ ∀ Y, Below w.heap.size w Y → Y.cell? ⟨b, off + i, none⟩ = some (.bool o.exps[i]) ∧ Y.cell? ⟨b2, off2 + i, none⟩ = some (.bool o.exps[i])) := fun i hi => two_at h.ex g.ex i hi
  have Lna : Hid (c.na.n = o.names.length ∧ d.na.n = o.names.length ∧ c.na.n ≤ 140737488355328) := ⟨h.na.len, g.na.len, by rw [h.na.len]; exact h.na.most⟩
  have Lex : Hid (c.ex.n = o.exps.length ∧ d.ex.n = o.exps.length ∧ c.ex.n ≤ 140737488355328) := ⟨h.ex.len, g.ex.len, by rw [h.ex.len]; exact h.ex.most⟩
  have m5 : c.na.n ≤ 140737488355328 := Lna.out.2.2
  have m6 : c.ex.n ≤ 140737488355328 := Lex.out.2.2
  have n5 : ((c.na.n : Int) != (d.na.n : Int)) = false := by have := Lna.out; simp; omega
  have n6 : ((c.ex.n : Int) != (d.ex.n : Int)) = false := by have := Lex.out; simp; omega
  have CL : Hid (∀ X, SI w X c d → X.cell? ⟨w.heap.size, 4, none⟩ = some (.slice c.pr.a c.pr.n c.pr.c) ∧ X.cell? ⟨w.heap.size + 1, 4, none⟩ = some (.slice d.pr.a d.pr.n d.pr.c) ∧ X.cell? ⟨w.heap.size, 8, none⟩ = some (.slice c.va.a c.va.n c.va.c) ∧ X.cell? ⟨w.heap.size + 1, 8, none⟩ = some (.slice d.va.a d.va.n d.va.c) ∧ X.cell? ⟨w.heap.size, 9, none⟩ = some (.slice c.sh.a c.sh.n c.sh.c) ∧ X.cell? ⟨w.heap.size + 1, 9, none⟩ = some (.slice d.sh.a d.sh.n d.sh.c) ∧ X.cell? ⟨w.heap.size, 5, none⟩ = some (.slice c.na.a c.na.n c.na.c) ∧ X.cell? ⟨w.heap.size + 1, 5, none⟩ = some (.slice d.na.a d.na.n d.na.c) ∧ X.cell? ⟨w.heap.size, 6, none⟩ = some (.slice c.ex.a c.ex.n c.ex.c) ∧ X.cell? ⟨w.heap.size + 1, 6, none⟩ = some (.slice d.ex.a d.ex.n d.ex.c)) := fun X hX => ⟨blk_cell hX.b1 4, blk_cell hX.b2 4, blk_cell hX.b1 8, blk_cell hX.b2 8, blk_cell hX.b1 9, blk_cell hX.b2 9, blk_cell hX.b1 5, blk_cell hX.b2 5, blk_cell hX.b1 6, blk_cell hX.b2 6⟩
  obtain ⟨W, hW⟩ : ∃ W, W = (w.alloc (.cells c.cells 31)).alloc (.cells d.cells 31) := ⟨_, rfl⟩
  have S0 : Hid (SI w W c d) := by rw [hW]; exact SI.start w c d
  obtain ⟨u1, u2, _, _, _, _, _, _, _, _⟩ := CL.out _ S0.out
  clear h g
  go_enter Try.func28, Try.ntmps28
  go_wp2_with (first
    | (rw [← hW]; clear hW)
    | (go_at_call 27; have hx := D2; clear hx; refine (I9.out _ D2.out).mono ?_; rintro e w3 ⟨rfl, d3⟩; have D0 := hid_of d3; obtain ⟨_, _, _, _, _, _, v7, v8, v9, v10⟩ := CL.out _ d3; clear d3)
    | (go_at_call 27; have hx := D1; clear hx; refine (I8.out _ D1.out).mono ?_; rintro e w2 ⟨rfl, d2⟩; have D2 := hid_of d2; obtain ⟨_, _, _, _, v5, v6, _, _, _, _⟩ := CL.out _ d2; clear d2)
    | (go_at_call 27; refine (I4.out _ S0.out).mono ?_; rintro e w1 ⟨rfl, d1⟩; have D1 := hid_of d1; obtain ⟨_, _, v3, v4, _, _, _, _, _, _⟩ := CL.out _ d1; clear d1))
  go_loopg [8] c.na.n (fun gf t8 wx => ∃ i : Nat, t8 = .int .i64 (i : Int) ∧ i + gf = c.na.n ∧ Hid (SI w wx c d))
  case atStart => exact ⟨0, rfl, by omega, D0.out⟩
  case round =>
    obtain ⟨i, rfl, hi, HS⟩ := hrel
    have q1 : wr.cell? ⟨w.heap.size, 5, none⟩ = some (.slice c.na.a c.na.n c.na.c) := blk_cell HS.out.b1 5
    have q2 : wr.cell? ⟨w.heap.size + 1, 5, none⟩ = some (.slice d.na.a d.na.n d.na.c) := blk_cell HS.out.b2 5
    by_cases hlt : i < c.na.n
    · obtain ⟨g', rfl⟩ : ∃ g', gk = g' + 1 := ⟨gk - 1, by omega⟩
      have d1 : decide ((i : Int) < (c.na.n : Int)) = true := decide_eq_true (by omega)
      have j0 : (0 : Int) ≤ (i : Int) := by omega
      have j1 : (i : Int) < (c.na.n : Int) := by omega
      have j2 : (i : Int) < (d.na.n : Int) := by have := Lna.out; omega
      have j3 : i < d.na.n := by have := Lna.out; omega
      have hil : i < o.names.length := by have := Lna.out; omega
      obtain ⟨b, off, b2, off2, ha, ha2, hc⟩ := Tna.out i hil
      obtain ⟨k0, k1⟩ := hc wr HS.out.be
      rw [ha] at q1
      rw [ha2] at q2
      generalize o.names[i] = y at k0 k1
      clear hc
      have e1 : (y.toList == y.toList) = true := by simp
      go_wp2
      go_region
      all_goals
        go_wp2
        go_roundg g'
        case measure => omega
        case rel => exact ⟨i + 1, by simp, by omega, HS.out.drew⟩
    · have d1 : decide ((i : Int) < (c.na.n : Int)) = false := decide_eq_false (by omega)
      obtain ⟨wo, rfl⟩ : ∃ wo, wo = wr := ⟨_, rfl⟩
      have d5 := HS
      go_wp2
      go_loopg [9] c.ex.n (fun gf t9 wx => ∃ i : Nat, t9 = .int .i64 (i : Int) ∧ i + gf = c.ex.n ∧ Hid (SI w wx c d))
      case atStart => exact ⟨0, rfl, by omega, d5.out⟩
      case round =>
        obtain ⟨i, rfl, hi, HS⟩ := hrel
        have q1 : wr.cell? ⟨w.heap.size, 6, none⟩ = some (.slice c.ex.a c.ex.n c.ex.c) := blk_cell HS.out.b1 6
        have q2 : wr.cell? ⟨w.heap.size + 1, 6, none⟩ = some (.slice d.ex.a d.ex.n d.ex.c) := blk_cell HS.out.b2 6
        by_cases hlt : i < c.ex.n
        · obtain ⟨g', rfl⟩ : ∃ g', gk = g' + 1 := ⟨gk - 1, by omega⟩
          have d1 : decide ((i : Int) < (c.ex.n : Int)) = true := decide_eq_true (by omega)
          have j0 : (0 : Int) ≤ (i : Int) := by omega
          have j1 : (i : Int) < (c.ex.n : Int) := by omega
          have j2 : (i : Int) < (d.ex.n : Int) := by have := Lex.out; omega
          have j3 : i < d.ex.n := by have := Lex.out; omega
          have hil : i < o.exps.length := by have := Lex.out; omega
          obtain ⟨b, off, b2, off2, ha, ha2, hc⟩ := Tex.out i hil
          obtain ⟨k0, k1⟩ := hc wr HS.out.be
          rw [ha] at q1
          rw [ha2] at q2
          generalize o.exps[i] = y at k0 k1
          clear hc
          have e1 : (y != y) = false := by simp
          go_wp2
          go_region
          all_goals
            go_wp2
            go_roundg g'
            case measure => omega
            case rel => exact ⟨i + 1, by simp, by omega, HS.out.drew⟩
        · have d1 : decide ((i : Int) < (c.ex.n : Int)) = false := decide_eq_false (by omega)
          go_wp2
          go_ret
          exact ⟨rfl, HS.out.be⟩
end Go.Proofs.Ytjpaepmnmlpjkaa

namespace Go.Proofs.Ytjpaepmnmlpjkaa
set_option linter.unusedVariables false
set_option linter.unusedSimpArgs false
open Go.ChangeShapes Go.WideShapes Go.ChangeAt Go.RowKit
attribute [local go_sem ↓] loadO_seal

set_option maxHeartbeats 32000000 in
set_option maxRecDepth 20000 in
theorem same_eq (w : World) (c d : Oc) (o : Ob) (h : ObR w c o) (g : ObR w d o) : Calls Try.prog 13 #[.agg c.cells, .agg d.cells] w fun e w' => e = .returned (.bool true) ∧ Below w.heap.size w w' := by
  have PE : Hid (∀ X, SI w X c d → Calls Try.prog 28 #[.agg c.cells, .agg d.cells] X fun e Y => e = .returned (.bool true) ∧ Below w.heap.size w Y) := fun X hX => (procs_eq X c d o (h.below hX.be) (g.below hX.be)).mono fun e Y hh => ⟨hh.1, hX.be.trans (hh.2.mono hX.be.size)⟩
  obtain ⟨l1, a1, a2, a3⟩ := h.ds
  obtain ⟨l2, b1, b2, b3⟩ := g.ds
  have n12 : l1.length = l2.length := by have := congrArg List.length (a1.trans b1.symm); simpa using this
  have h12 : ∀ i, i < l1.length → (l1.getD i d0).1 = (l2.getD i d0).1 := fun i hi => by
    have e1 : (l1.map (·.1))[i]? = (l2.map (·.1))[i]? := by rw [a1, b1]
    rw [List.getElem?_map, List.getElem?_map, List.getElem?_eq_getElem hi, List.getElem?_eq_getElem (by omega)] at e1
    rw [getD_at _ _ i hi, getD_at _ _ i (by omega)]
    simpa using e1
  have Tds : Hid (∀ i, i < c.ds.n → i < d.ds.n → ∃ b off b2 off2, c.ds.a = some ⟨b, off, none⟩ ∧ d.ds.a = some ⟨b2, off2, none⟩ ∧ ∀ Y, Below w.heap.size w Y → ∀ m (hm : m < 3), Y.cell? ⟨b, off + (i * 3 + m), none⟩ = (dEnc (l1.getD i d0))[m]? ∧ Y.cell? ⟨b2, off2 + (i * 3 + m), none⟩ = (dEnc (l2.getD i d0))[m]?) := fun i hi hi2 => by
    rw [a2.len] at hi
    rw [b2.len] at hi2
    rw [getD_at _ _ i hi, getD_at _ _ i hi2]
    exact two_many (enc := dEnc) (enc2 := dEnc) (k := 3) (fun _ => rfl) a2 b2 i hi hi2
  have Hds : Hid (∀ i, i < c.ds.n → (l1.getD i d0).1 = (l2.getD i d0).1) := fun i hi => h12 i (by rw [← a2.len]; exact hi)
  have IDs : Hid (∀ X, SI w X c d → ∀ i, i < c.ds.n → Calls Try.prog 27 #[.slice (l1.getD i d0).2.a (l1.getD i d0).2.n (l1.getD i d0).2.c, .slice (l2.getD i d0).2.a (l2.getD i d0).2.n (l2.getD i d0).2.c] X fun e Y => e = .returned (.bool true) ∧ SI w Y c d) := fun X hX i hi => by
    rw [a2.len] at hi
    have e1 := (a3 (l1.getD i d0) (by rw [getD_at _ _ i hi]; exact List.getElem_mem hi)).below hX.be
    have e2 := (b3 (l2.getD i d0) (by rw [getD_at _ _ i (by omega)]; exact List.getElem_mem _)).below hX.be
    rw [← h12 i hi] at e2
    exact (ints_eq X _ _ _ e1 e2).mono fun e Y hh => ⟨hh.1, hX.below hh.2⟩
  have Tim : Hid (∀ i (hi : i < o.imps.length), ∃ b off b2 off2, c.im.a = some ⟨b, off, none⟩ ∧ d.im.a = some ⟨b2, off2, none⟩ ∧ ∀ Y, Below w.heap.size w Y → ∀ m (hm : m < 2), Y.cell? ⟨b, off + (i * 2 + m), none⟩ = (iEnc o.imps[i])[m]? ∧ Y.cell? ⟨b2, off2 + (i * 2 + m), none⟩ = (iEnc o.imps[i])[m]?) := fun i hi => two_many (enc := iEnc) (enc2 := iEnc) (k := 2) (fun _ => rfl) h.im g.im i hi hi
  have Tfx : Hid (∀ i (hi : i < o.fixes.length), ∃ b off b2 off2, c.fx.a = some ⟨b, off, none⟩ ∧ d.fx.a = some ⟨b2, off2, none⟩ ∧ ∀ Y, Below w.heap.size w Y → ∀ m (hm : m < 4), Y.cell? ⟨b, off + (i * 4 + m), none⟩ = (xEnc o.fixes[i])[m]? ∧ Y.cell? ⟨b2, off2 + (i * 4 + m), none⟩ = (xEnc o.fixes[i])[m]?) := fun i hi => two_many (enc := xEnc) (enc2 := xEnc) (k := 4) (fun _ => rfl) h.fx g.fx i hi hi
  have Tco : Hid (∀ i (hi : i < o.code.length), ∃ b off b2 off2, c.co.a = some ⟨b, off, none⟩ ∧ d.co.a = some ⟨b2, off2, none⟩ ∧ ∀ Y, Below w.heap.size w Y → Y.cell? ⟨b, off + i, none⟩ = some (.int .u32 o.code[i]) ∧ Y.cell? ⟨b2, off2 + i, none⟩ = some (.int .u32 o.code[i])) := fun i hi => two_at h.co g.co i hi
  have Tst : Hid (∀ i (hi : i < o.strs.length), ∃ b off b2 off2, c.st.a = some ⟨b, off, none⟩ ∧ d.st.a = some ⟨b2, off2, none⟩ ∧ ∀ Y, Below w.heap.size w Y → Y.cell? ⟨b, off + i, none⟩ = some (.string o.strs[i]) ∧ Y.cell? ⟨b2, off2 + i, none⟩ = some (.string o.strs[i])) := fun i hi => two_at h.st g.st i hi
  have Lim : Hid (c.im.n = o.imps.length ∧ d.im.n = o.imps.length ∧ c.im.n ≤ 140737488355328) := ⟨h.im.len, g.im.len, by rw [h.im.len]; exact h.im.most⟩
  have Lco : Hid (c.co.n = o.code.length ∧ d.co.n = o.code.length ∧ c.co.n ≤ 140737488355328) := ⟨h.co.len, g.co.len, by rw [h.co.len]; exact h.co.most⟩
  have Lst : Hid (c.st.n = o.strs.length ∧ d.st.n = o.strs.length ∧ c.st.n ≤ 140737488355328) := ⟨h.st.len, g.st.len, by rw [h.st.len]; exact h.st.most⟩
  have Lfx : Hid (c.fx.n = o.fixes.length ∧ d.fx.n = o.fixes.length ∧ c.fx.n ≤ 140737488355328) := ⟨h.fx.len, g.fx.len, by rw [h.fx.len]; exact h.fx.most⟩
  have Lds : Hid (c.ds.n = l1.length ∧ d.ds.n = l1.length ∧ c.ds.n ≤ 140737488355328) := ⟨a2.len, by rw [b2.len, n12], by rw [a2.len]; exact a2.most⟩
  have mim : c.im.n ≤ 140737488355328 := Lim.out.2.2
  have nim : ((c.im.n : Int) != (d.im.n : Int)) = false := by have := Lim.out; simp; omega
  have mco : c.co.n ≤ 140737488355328 := Lco.out.2.2
  have nco : ((c.co.n : Int) != (d.co.n : Int)) = false := by have := Lco.out; simp; omega
  have mst : c.st.n ≤ 140737488355328 := Lst.out.2.2
  have nst : ((c.st.n : Int) != (d.st.n : Int)) = false := by have := Lst.out; simp; omega
  have mfx : c.fx.n ≤ 140737488355328 := Lfx.out.2.2
  have nfx : ((c.fx.n : Int) != (d.fx.n : Int)) = false := by have := Lfx.out; simp; omega
  have mds : c.ds.n ≤ 140737488355328 := Lds.out.2.2
  have nds : ((c.ds.n : Int) != (d.ds.n : Int)) = false := by have := Lds.out; simp; omega
  have nnm : c.nm = d.nm := by rw [h.nm, g.nm]
  have nke : c.key = d.key := by rw [h.key, g.key]
  have nin : c.ini = d.ini := by rw [h.ini, g.ini]
  have y1 : (d.nm.toList == d.nm.toList) = true := by simp
  have y2 : (d.key != d.key) = false := by simp
  have y3 : (d.ini != d.ini) = false := by simp
  obtain ⟨W, hW⟩ : ∃ W, W = (w.alloc (.cells c.cells 31)).alloc (.cells d.cells 31) := ⟨_, rfl⟩
  have S0 : Hid (SI w W c d) := by rw [hW]; exact SI.start w c d
  have u0 : W.cell? ⟨w.heap.size, 0, none⟩ = some (.string d.nm) := by rw [← nnm]; exact blk_cell S0.out.b1 0
  have u1 : W.cell? ⟨w.heap.size, 1, none⟩ = some (.int .u32 d.key) := by rw [← nke]; exact blk_cell S0.out.b1 1
  have u7 : W.cell? ⟨w.heap.size, 7, none⟩ = some (.int .i64 d.ini) := by rw [← nin]; exact blk_cell S0.out.b1 7
  have v0 : W.cell? ⟨w.heap.size + 1, 0, none⟩ = some (.string d.nm) := blk_cell S0.out.b2 0
  have v1 : W.cell? ⟨w.heap.size + 1, 1, none⟩ = some (.int .u32 d.key) := blk_cell S0.out.b2 1
  have v7 : W.cell? ⟨w.heap.size + 1, 7, none⟩ = some (.int .i64 d.ini) := blk_cell S0.out.b2 7
  have u2 : W.cell? ⟨w.heap.size, 2, none⟩ = some (.slice c.im.a c.im.n c.im.c) := blk_cell S0.out.b1 2
  have v2 : W.cell? ⟨w.heap.size + 1, 2, none⟩ = some (.slice d.im.a d.im.n d.im.c) := blk_cell S0.out.b2 2
  have u3 : W.cell? ⟨w.heap.size, 3, none⟩ = some (.slice c.co.a c.co.n c.co.c) := blk_cell S0.out.b1 3
  have v3 : W.cell? ⟨w.heap.size + 1, 3, none⟩ = some (.slice d.co.a d.co.n d.co.c) := blk_cell S0.out.b2 3
  have u10 : W.cell? ⟨w.heap.size, 10, none⟩ = some (.slice c.st.a c.st.n c.st.c) := blk_cell S0.out.b1 10
  have v10 : W.cell? ⟨w.heap.size + 1, 10, none⟩ = some (.slice d.st.a d.st.n d.st.c) := blk_cell S0.out.b2 10
  have u12 : W.cell? ⟨w.heap.size, 12, none⟩ = some (.slice c.fx.a c.fx.n c.fx.c) := blk_cell S0.out.b1 12
  have v12 : W.cell? ⟨w.heap.size + 1, 12, none⟩ = some (.slice d.fx.a d.fx.n d.fx.c) := blk_cell S0.out.b2 12
  have u11 : W.cell? ⟨w.heap.size, 11, none⟩ = some (.slice c.ds.a c.ds.n c.ds.c) := blk_cell S0.out.b1 11
  have v11 : W.cell? ⟨w.heap.size + 1, 11, none⟩ = some (.slice d.ds.a d.ds.n d.ds.c) := blk_cell S0.out.b2 11
  clear h g a1 a2 a3 b1 b2 b3 n12 h12 nnm nke nin
  go_enter Try.func13, Try.ntmps13
  go_wp2_with (rw [← hW]; clear hW)
  go_loopg [5] c.im.n (fun gf t5 wx => ∃ i : Nat, t5 = .int .i64 (i : Int) ∧ i + gf = c.im.n ∧ Hid (SI w wx c d))
  case atStart => exact ⟨0, rfl, by omega, S0.out⟩
  case round =>
    obtain ⟨i, rfl, hi, HS⟩ := hrel
    have q1 : wr.cell? ⟨w.heap.size, 2, none⟩ = some (.slice c.im.a c.im.n c.im.c) := blk_cell HS.out.b1 2
    have q2 : wr.cell? ⟨w.heap.size + 1, 2, none⟩ = some (.slice d.im.a d.im.n d.im.c) := blk_cell HS.out.b2 2
    by_cases hlt : i < c.im.n
    · obtain ⟨g', rfl⟩ : ∃ g', gk = g' + 1 := ⟨gk - 1, by omega⟩
      have d1 : decide ((i : Int) < (c.im.n : Int)) = true := decide_eq_true (by omega)
      have j0 : (0 : Int) ≤ (i : Int) := by omega
      have j1 : (i : Int) < (c.im.n : Int) := by omega
      have j2 : (i : Int) < (d.im.n : Int) := by have := Lim.out; omega
      have j3 : i < d.im.n := by have := Lim.out; omega
      have hil : i < o.imps.length := by have := Lim.out; omega
      obtain ⟨b, off, b2, off2, ha, ha2, hc⟩ := Tim.out i hil
      have hcc := hc wr HS.out.be
      rw [ha] at q1
      rw [ha2] at q2
      generalize o.imps[i] = y at hcc
      have k0 : wr.cell? ⟨b, off + i * 2, none⟩ = some (.string y.1) := by have := (hcc 0 (by omega)).1; exact this
      have h0 : wr.cell? ⟨b2, off2 + i * 2, none⟩ = some (.string y.1) := by have := (hcc 0 (by omega)).2; exact this
      have k1 : wr.cell? ⟨b, off + i * 2 + 1, none⟩ = some (.int .u32 y.2) := by have := (hcc 1 (by omega)).1; rw [← Nat.add_assoc] at this; exact this
      have h1 : wr.cell? ⟨b2, off2 + i * 2 + 1, none⟩ = some (.int .u32 y.2) := by have := (hcc 1 (by omega)).2; rw [← Nat.add_assoc] at this; exact this
      have e1 : (y.1.toList == y.1.toList) = true := by simp
      clear hc hcc
      go_wp2
      go_region
      all_goals
        go_wp2
        go_roundg g'
        case measure => omega
        case rel => exact ⟨i + 1, by simp, by omega, HS.out.drew⟩
    · have d1 : decide ((i : Int) < (c.im.n : Int)) = false := decide_eq_false (by omega)
      have z1 := HS
      go_wp2
      go_loopg [6] c.co.n (fun gf t6 wx => ∃ i : Nat, t6 = .int .i64 (i : Int) ∧ i + gf = c.co.n ∧ Hid (SI w wx c d))
      case atStart => exact ⟨0, rfl, by omega, z1.out⟩
      case round =>
        obtain ⟨i, rfl, hi, HS⟩ := hrel
        have q1 : wr.cell? ⟨w.heap.size, 3, none⟩ = some (.slice c.co.a c.co.n c.co.c) := blk_cell HS.out.b1 3
        have q2 : wr.cell? ⟨w.heap.size + 1, 3, none⟩ = some (.slice d.co.a d.co.n d.co.c) := blk_cell HS.out.b2 3
        by_cases hlt : i < c.co.n
        · obtain ⟨g', rfl⟩ : ∃ g', gk = g' + 1 := ⟨gk - 1, by omega⟩
          have d1 : decide ((i : Int) < (c.co.n : Int)) = true := decide_eq_true (by omega)
          have j0 : (0 : Int) ≤ (i : Int) := by omega
          have j1 : (i : Int) < (c.co.n : Int) := by omega
          have j2 : (i : Int) < (d.co.n : Int) := by have := Lco.out; omega
          have j3 : i < d.co.n := by have := Lco.out; omega
          have hil : i < o.code.length := by have := Lco.out; omega
          obtain ⟨b, off, b2, off2, ha, ha2, hc⟩ := Tco.out i hil
          obtain ⟨k0, k1⟩ := hc wr HS.out.be
          rw [ha] at q1
          rw [ha2] at q2
          generalize o.code[i] = y at k0 k1
          clear hc
          have e1 : (y != y) = false := by simp
          go_wp2
          go_region
          all_goals
            go_wp2
            go_roundg g'
            case measure => omega
            case rel => exact ⟨i + 1, by simp, by omega, HS.out.drew⟩
        · have d1 : decide ((i : Int) < (c.co.n : Int)) = false := decide_eq_false (by omega)
          have z2 := HS
          go_wp2
          go_loopg [7] c.st.n (fun gf t7 wx => ∃ i : Nat, t7 = .int .i64 (i : Int) ∧ i + gf = c.st.n ∧ Hid (SI w wx c d))
          case atStart => exact ⟨0, rfl, by omega, z2.out⟩
          case round =>
            obtain ⟨i, rfl, hi, HS⟩ := hrel
            have q1 : wr.cell? ⟨w.heap.size, 10, none⟩ = some (.slice c.st.a c.st.n c.st.c) := blk_cell HS.out.b1 10
            have q2 : wr.cell? ⟨w.heap.size + 1, 10, none⟩ = some (.slice d.st.a d.st.n d.st.c) := blk_cell HS.out.b2 10
            by_cases hlt : i < c.st.n
            · obtain ⟨g', rfl⟩ : ∃ g', gk = g' + 1 := ⟨gk - 1, by omega⟩
              have d1 : decide ((i : Int) < (c.st.n : Int)) = true := decide_eq_true (by omega)
              have j0 : (0 : Int) ≤ (i : Int) := by omega
              have j1 : (i : Int) < (c.st.n : Int) := by omega
              have j2 : (i : Int) < (d.st.n : Int) := by have := Lst.out; omega
              have j3 : i < d.st.n := by have := Lst.out; omega
              have hil : i < o.strs.length := by have := Lst.out; omega
              obtain ⟨b, off, b2, off2, ha, ha2, hc⟩ := Tst.out i hil
              obtain ⟨k0, k1⟩ := hc wr HS.out.be
              rw [ha] at q1
              rw [ha2] at q2
              generalize o.strs[i] = y at k0 k1
              clear hc
              have e1 : (y.toList == y.toList) = true := by simp
              go_wp2
              go_region
              all_goals
                go_wp2
                go_roundg g'
                case measure => omega
                case rel => exact ⟨i + 1, by simp, by omega, HS.out.drew⟩
            · have d1 : decide ((i : Int) < (c.st.n : Int)) = false := decide_eq_false (by omega)
              have z3 := HS
              go_wp2
              go_loopg [8, 9] c.ds.n (fun gf t8 t9 wx => ∃ i : Nat, t8 = .int .i64 (i : Int) ∧ i + gf = c.ds.n ∧ Hid (SI w wx c d))
              case atStart => exact ⟨0, rfl, by omega, z3.out⟩
              case round =>
                obtain ⟨i, rfl, hi, HS⟩ := hrel
                have q1 : wr.cell? ⟨w.heap.size, 11, none⟩ = some (.slice c.ds.a c.ds.n c.ds.c) := blk_cell HS.out.b1 11
                have q2 : wr.cell? ⟨w.heap.size + 1, 11, none⟩ = some (.slice d.ds.a d.ds.n d.ds.c) := blk_cell HS.out.b2 11
                by_cases hlt : i < c.ds.n
                · obtain ⟨g', rfl⟩ : ∃ g', gk = g' + 1 := ⟨gk - 1, by omega⟩
                  have d1 : decide ((i : Int) < (c.ds.n : Int)) = true := decide_eq_true (by omega)
                  have j0 : (0 : Int) ≤ (i : Int) := by omega
                  have j1 : (i : Int) < (c.ds.n : Int) := by omega
                  have j2 : (i : Int) < (d.ds.n : Int) := by have := Lds.out; omega
                  have j3 : i < d.ds.n := by have := Lds.out; omega
                  obtain ⟨b, off, b2, off2, ha, ha2, hc⟩ := Tds.out i hlt (by have := Lds.out; omega)
                  have CC : Hid (∀ X, SI w X c d → X.cell? ⟨w.heap.size, 11, none⟩ = some (.slice (some ⟨b, off, none⟩) c.ds.n c.ds.c) ∧ X.cell? ⟨w.heap.size + 1, 11, none⟩ = some (.slice (some ⟨b2, off2, none⟩) d.ds.n d.ds.c) ∧ X.cell? ⟨b, off + i * 3 + 2, none⟩ = some (.slice (l1.getD i d0).2.a (l1.getD i d0).2.n (l1.getD i d0).2.c) ∧ X.cell? ⟨b2, off2 + i * 3 + 2, none⟩ = some (.slice (l2.getD i d0).2.a (l2.getD i d0).2.n (l2.getD i d0).2.c)) := fun X hX => by
                    refine ⟨by rw [← ha]; exact blk_cell hX.b1 11, by rw [← ha2]; exact blk_cell hX.b2 11, ?_, ?_⟩
                    · have := (hc X hX.be 2 (by omega)).1; rw [← Nat.add_assoc] at this; exact this
                    · have := (hc X hX.be 2 (by omega)).2; rw [← Nat.add_assoc] at this; exact this
                  have CD : Hid (∀ X, SI w X c d → X.cell? ⟨b, off + i * 3, none⟩ = some (.int .i64 (l1.getD i d0).1.1) ∧ X.cell? ⟨b2, off2 + i * 3, none⟩ = some (.int .i64 (l1.getD i d0).1.1) ∧ X.cell? ⟨b, off + i * 3 + 1, none⟩ = some (.int .i64 (l1.getD i d0).1.2.1) ∧ X.cell? ⟨b2, off2 + i * 3 + 1, none⟩ = some (.int .i64 (l1.getD i d0).1.2.1)) := fun X hX => by
                    have hh := Hds.out i hlt
                    refine ⟨(hc X hX.be 0 (by omega)).1, by rw [hh]; exact (hc X hX.be 0 (by omega)).2, ?_, ?_⟩
                    · have := (hc X hX.be 1 (by omega)).1; rw [← Nat.add_assoc] at this; exact this
                    · rw [hh]; have := (hc X hX.be 1 (by omega)).2; rw [← Nat.add_assoc] at this; exact this
                  have IT : Hid (∀ X, SI w X c d → Calls Try.prog 27 #[.slice (l1.getD i d0).2.a (l1.getD i d0).2.n (l1.getD i d0).2.c, .slice (l2.getD i d0).2.a (l2.getD i d0).2.n (l2.getD i d0).2.c] X fun e Y => e = .returned (.bool true) ∧ SI w Y c d) := fun X hX => IDs.out X hX i hlt
                  clear hc ha ha2 q1 q2
                  have q1 := (CC.out wr HS.out).1
                  generalize (l1.getD i d0).1.1 = y1 at CD
                  generalize (l1.getD i d0).1.2.1 = y2 at CD
                  generalize (l1.getD i d0).2 = s1 at CC IT
                  generalize (l2.getD i d0).2 = s2 at CC IT
                  have e1 : (y1 != y1) = false := by simp
                  have e2 : (y2 != y2) = false := by simp
                  go_wp2
                  refine wp_region_held_drew (S := (fun X => SI w X c d)) (by kernel_rfl) HS.out.drew (fun hHeld => ?_)
                  refine wpAnyH_take (i := 0) (v := ?_) rfl (by kernel_rfl) (by kernel_rfl) (by kernel_rfl) (fun _ _ _ h => h) (Or.inl ⟨by kernel_rfl, ?y0d⟩) hHeld ?r0d
                  case y0d => (intro wq hSw; go_simp; try rfl)
                  simp only [Act.put, List.setIfInBounds_toArray, List.set_cons_zero, List.set_cons_succ]
                  refine wpAnyH_take (i := 1) (v := ?_) rfl (by kernel_rfl) (by kernel_rfl) (by kernel_rfl) (fun _ _ _ h => h) (Or.inl ⟨by kernel_rfl, ?y1d⟩) hHeld ?r1d
                  case y1d => (intro wq hSw; have q := (CC.out wq hSw).1; go_simp; try rfl)
                  simp only [Act.put, List.setIfInBounds_toArray, List.set_cons_zero, List.set_cons_succ]
                  refine wpAnyH_take (i := 2) (v := ?_) rfl (by kernel_rfl) (by kernel_rfl) (by kernel_rfl) (fun _ _ _ h => h) (Or.inl ⟨by kernel_rfl, ?y2d⟩) hHeld ?r2d
                  case y2d => (intro wq hSw; go_simp; try rfl)
                  simp only [Act.put, List.setIfInBounds_toArray, List.set_cons_zero, List.set_cons_succ]
                  refine wpAnyH_take (i := 3) (v := ?_) rfl (by kernel_rfl) (by kernel_rfl) (by kernel_rfl) (fun _ _ _ h => h) (Or.inl ⟨by kernel_rfl, ?y3d⟩) hHeld ?r3d
                  case y3d => (intro wq hSw; go_simp; try rfl)
                  simp only [Act.put, List.setIfInBounds_toArray, List.set_cons_zero, List.set_cons_succ]
                  refine wpAnyH_take (i := 4) (v := ?_) rfl (by kernel_rfl) (by kernel_rfl) (by kernel_rfl) (fun _ _ _ h => h) (Or.inl ⟨by kernel_rfl, ?y4d⟩) hHeld ?r4d
                  case y4d => (intro wq hSw; go_simp; try rfl)
                  simp only [Act.put, List.setIfInBounds_toArray, List.set_cons_zero, List.set_cons_succ]
                  refine wpAnyH_take (i := 5) (v := ?_) rfl (by kernel_rfl) (by kernel_rfl) (by kernel_rfl) (fun _ _ _ h => h) (Or.inl ⟨by kernel_rfl, ?y5d⟩) hHeld ?r5d
                  case y5d => (intro wq hSw; have q := (CC.out wq hSw).2.2.1; go_simp; try rfl)
                  simp only [Act.put, List.setIfInBounds_toArray, List.set_cons_zero, List.set_cons_succ]
                  refine wpAnyH_take (i := 6) (v := ?_) rfl (by kernel_rfl) (by kernel_rfl) (by kernel_rfl) (fun _ _ _ h => h) (Or.inl ⟨by kernel_rfl, ?y6d⟩) hHeld ?r6d
                  case y6d => (intro wq hSw; go_simp; try rfl)
                  simp only [Act.put, List.setIfInBounds_toArray, List.set_cons_zero, List.set_cons_succ]
                  refine wpAnyH_take (i := 7) (v := ?_) rfl (by kernel_rfl) (by kernel_rfl) (by kernel_rfl) (fun _ _ _ h => h) (Or.inl ⟨by kernel_rfl, ?y7d⟩) hHeld ?r7d
                  case y7d => (intro wq hSw; have q := (CC.out wq hSw).2.1; go_simp; try rfl)
                  simp only [Act.put, List.setIfInBounds_toArray, List.set_cons_zero, List.set_cons_succ]
                  refine wpAnyH_take (i := 8) (v := ?_) rfl (by kernel_rfl) (by kernel_rfl) (by kernel_rfl) (fun _ _ _ h => h) (Or.inl ⟨by kernel_rfl, ?y8d⟩) hHeld ?r8d
                  case y8d => (intro wq hSw; go_simp; try rfl)
                  simp only [Act.put, List.setIfInBounds_toArray, List.set_cons_zero, List.set_cons_succ]
                  refine wpAnyH_take (i := 9) (v := ?_) rfl (by kernel_rfl) (by kernel_rfl) (by kernel_rfl) (fun _ _ _ h => h) (Or.inl ⟨by kernel_rfl, ?y9d⟩) hHeld ?r9d
                  case y9d => (intro wq hSw; go_simp; try rfl)
                  simp only [Act.put, List.setIfInBounds_toArray, List.set_cons_zero, List.set_cons_succ]
                  refine wpAnyH_take (i := 10) (v := ?_) rfl (by kernel_rfl) (by kernel_rfl) (by kernel_rfl) (fun _ _ _ h => h) (Or.inl ⟨by kernel_rfl, ?y10d⟩) hHeld ?r10d
                  case y10d => (intro wq hSw; go_simp; try rfl)
                  simp only [Act.put, List.setIfInBounds_toArray, List.set_cons_zero, List.set_cons_succ]
                  refine wpAnyH_take (i := 11) (v := ?_) rfl (by kernel_rfl) (by kernel_rfl) (by kernel_rfl) (fun _ _ _ h => h) (Or.inl ⟨by kernel_rfl, ?y11d⟩) hHeld ?r11d
                  case y11d => (intro wq hSw; have q := (CC.out wq hSw).2.2.2; go_simp; try rfl)
                  simp only [Act.put, List.setIfInBounds_toArray, List.set_cons_zero, List.set_cons_succ]
                  refine wpAnyH_ready (rs := [12]) (by kernel_rfl) (by simp) ?_
                  refine AllReadyH.cons rfl (fun K hK => ?_) AllReadyH.nil
                  go_simp
                  go_wp2_with (go_at_call 27; refine (IT.out _ HS.out.drew).mono ?_; rintro e w5 ⟨rfl, h5⟩; have H5 := hid_of h5; clear h5)
                  refine hK.out _ _ H5.out (fun _ => ?_)
                  clear hK K
                  refine wpAnyH_ready (rs := [13]) (by kernel_rfl) (by simp) ?_
                  refine AllReadyH.cons rfl (fun K hK => ?_) AllReadyH.nil
                  go_simp
                  refine hK.out _ _ H5.out (fun _ => ?_)
                  clear hK K
                  refine wpAnyH_done (by kernel_rfl) ?_ _
                  clear hHeld
                  obtain ⟨p1, p2, _, _⟩ := CC.out _ H5.out
                  obtain ⟨p3, p4, p5, p6⟩ := CD.out _ H5.out
                  clear CC CD IT
                  go_wp2
                  go_region
                  all_goals
                    go_wp2
                    go_roundg g'
                    case measure => omega
                    case rel => exact ⟨i + 1, by simp, by omega, H5.out.drew⟩
                · have d1 : decide ((i : Int) < (c.ds.n : Int)) = false := decide_eq_false (by omega)
                  have z4 := HS
                  go_wp2
                  go_loopg [10] c.fx.n (fun gf t10 wx => ∃ i : Nat, t10 = .int .i64 (i : Int) ∧ i + gf = c.fx.n ∧ Hid (SI w wx c d))
                  case atStart => exact ⟨0, rfl, by omega, z4.out⟩
                  case round =>
                    obtain ⟨i, rfl, hi, HS⟩ := hrel
                    have q1 : wr.cell? ⟨w.heap.size, 12, none⟩ = some (.slice c.fx.a c.fx.n c.fx.c) := blk_cell HS.out.b1 12
                    have q2 : wr.cell? ⟨w.heap.size + 1, 12, none⟩ = some (.slice d.fx.a d.fx.n d.fx.c) := blk_cell HS.out.b2 12
                    by_cases hlt : i < c.fx.n
                    · obtain ⟨g', rfl⟩ : ∃ g', gk = g' + 1 := ⟨gk - 1, by omega⟩
                      have d1 : decide ((i : Int) < (c.fx.n : Int)) = true := decide_eq_true (by omega)
                      have j0 : (0 : Int) ≤ (i : Int) := by omega
                      have j1 : (i : Int) < (c.fx.n : Int) := by omega
                      have j2 : (i : Int) < (d.fx.n : Int) := by have := Lfx.out; omega
                      have j3 : i < d.fx.n := by have := Lfx.out; omega
                      have hil : i < o.fixes.length := by have := Lfx.out; omega
                      obtain ⟨b, off, b2, off2, ha, ha2, hc⟩ := Tfx.out i hil
                      have hcc := hc wr HS.out.be
                      rw [ha] at q1
                      rw [ha2] at q2
                      generalize o.fixes[i] = y at hcc
                      have k0 : wr.cell? ⟨b, off + i * 4, none⟩ = some (.int .i64 y.1) := by have := (hcc 0 (by omega)).1; exact this
                      have h0 : wr.cell? ⟨b2, off2 + i * 4, none⟩ = some (.int .i64 y.1) := by have := (hcc 0 (by omega)).2; exact this
                      have k1 : wr.cell? ⟨b, off + i * 4 + 1, none⟩ = some (.int .i64 y.2.1) := by have := (hcc 1 (by omega)).1; rw [← Nat.add_assoc] at this; exact this
                      have h1 : wr.cell? ⟨b2, off2 + i * 4 + 1, none⟩ = some (.int .i64 y.2.1) := by have := (hcc 1 (by omega)).2; rw [← Nat.add_assoc] at this; exact this
                      have k2 : wr.cell? ⟨b, off + i * 4 + 2, none⟩ = some (.int .i64 y.2.2.1) := by have := (hcc 2 (by omega)).1; rw [← Nat.add_assoc] at this; exact this
                      have h2 : wr.cell? ⟨b2, off2 + i * 4 + 2, none⟩ = some (.int .i64 y.2.2.1) := by have := (hcc 2 (by omega)).2; rw [← Nat.add_assoc] at this; exact this
                      have k3 : wr.cell? ⟨b, off + i * 4 + 3, none⟩ = some (.int .i64 y.2.2.2) := by have := (hcc 3 (by omega)).1; rw [← Nat.add_assoc] at this; exact this
                      have h3 : wr.cell? ⟨b2, off2 + i * 4 + 3, none⟩ = some (.int .i64 y.2.2.2) := by have := (hcc 3 (by omega)).2; rw [← Nat.add_assoc] at this; exact this
                      clear hc hcc
                      go_wp2
                      go_region
                      all_goals
                        go_wp2
                        go_roundg g'
                        case measure => omega
                        case rel => exact ⟨i + 1, by simp, by omega, HS.out.drew⟩
                    · have d1 : decide ((i : Int) < (c.fx.n : Int)) = false := decide_eq_false (by omega)
                      have lo1 := loadO_run HS.out.b1
                      have lo2 := loadO_run HS.out.b2
                      go_wp2_with (go_at_call 28; refine (PE.out _ HS.out).mono ?_; rintro e w9 ⟨rfl, hb9⟩)
                      go_ret
                      exact ⟨rfl, hb9⟩
end Go.Proofs.Ytjpaepmnmlpjkaa

namespace Go.Proofs.Ytjpaepmnmlpjkaa
set_option linter.unusedVariables false
set_option linter.unusedSimpArgs false
open Go.ChangeShapes Go.WideShapes Go.ChangeAt Go.RowKit
attribute [local go_sem ↓] loadO_seal storeO_seal appN_seal mkN_seal

set_option maxHeartbeats 4000000 in
set_option maxRecDepth 20000 in
theorem decode_long2 (w : World) (a : Option Addr) (len cap : Nat) (f : Nat → Int) (hl : 1048576 < len) (hfit : len ≤ 4611686018427387904) : Calls Try.prog 14 #[.slice a len cap] w (PostC w f len) := by
  have hR : decR f len = (0, 71) := by unfold decR; rw [if_neg (by omega)]
  obtain ⟨Z, hst, hz, ht⟩ := storeO_run (zero_at w) Oc.zero
  have HB : Hid (Below w.heap.size w Z) := Below.of_tq (by go_grown) ht fun k hk => by omega
  have d1 : decide ((1048576 : Int) < (len : Int)) = true := decide_eq_true (by omega)
  have d2 : 1048576 < len := hl
  unfold zeroO at hst
  simp only [Oc.cells, Oc.zero] at hst
  go_enter Try.func14, Try.ntmps14
  go_wp2
  refine ret_cell_tmp2 (p := 2) (q := 3) (r := 4) rfl rfl (loadO_run hz) rfl ?_
  exact postC_bad hR (by omega) HB.out
theorem decode_own {X : World} {B : Nat} {a : Option Addr} {n c : Nat} {l : List Int} (h : Ow X B (.slice a n c) l) (hb : AllB l) (hl : l.length ≤ 4611686018427387904) : Calls Try.prog 14 #[.slice a n c] X (PostC X (fun i => l.getD i 0) l.length) := by
  by_cases hx : 1048576 < l.length
  · have hn : n = l.length := by
      unfold Ow at h
      rcases h.2 with ⟨hv, h0⟩ | ⟨g', cap, cur, hv, _⟩
      · injection hv with _ e _; rw [e, h0]
      · injection hv
    rw [hn]
    exact decode_long2 X a l.length c _ hx hl
  · obtain ⟨h1, h2, h3⟩ := ow_src h hb (by omega)
    rw [h2] at h1 h3 ⊢
    exact decode_any X a l.length c _ h1 h3
/-- Both objects, and what was written. -/
structure BI (w Z : World) (ga : Nat) (c c2 : Oc) (o : Ob) : Prop where
  bo : OAt Z w.heap.size c
  bp : OAt Z ga c2
  ro : ObR Z c o
  rp : ObR Z c2 o
  be : Below w.heap.size w Z
theorem BI.below {w Z Y : World} {ga : Nat} {c c2 : Oc} {o : Ob} (h : BI w Z ga c c2 o) (hb : Below Z.heap.size Z Y) : BI w Y ga c c2 o := ⟨(hb.block _ h.bo.lt).trans h.bo, (hb.block _ h.bp.lt).trans h.bp, h.ro.below hb, h.rp.below hb, h.be.trans (hb.mono h.be.size)⟩
set_option maxHeartbeats 4000000 in
set_option maxRecDepth 20000 in
theorem back_no (w : World) (c : Oc) (o : Ob) (h : ObR w c o) (hn : rightB o = false) (ma : Option Addr) (m mc : Nat) : Calls Try.prog 7 #[.agg c.cells, .slice ma m mc] w fun e w' => e = .returned (.bool true) ∧ Below w.heap.size w w' := by
  have D0 : Hid (DI w (w.alloc (.cells c.cells 31)) c o) := DI.mk' h (Below.refl _ _)
  have SH : Hid (∀ X, DI w X c o → Calls Try.prog 8 #[] X fun e Y => e = .returned (.bool true) ∧ DI w Y c o) := fun X hX => (shown_any X).mono fun e Y hh => ⟨hh.1, hX.below hh.2⟩
  have RG : Hid (∀ X, DI w X c o → Calls Try.prog 10 #[.agg c.cells] X fun e Y => e = .returned (.bool false) ∧ DI w Y c o) := fun X hX => (right_any X c o hX.rd).mono fun e Y hh => ⟨by rw [← hn]; exact hh.1, hX.below hh.2⟩
  have EN : Hid (∀ X, DI w X c o → Calls Try.prog 11 #[.agg c.cells] X fun e Y => e = .returned (.tuple #[.slice none 0 0, .int .i64 70]) ∧ DI w Y c o) := fun X hX => (encode_no X c o hX.rd hn).mono fun e Y hh => ⟨hh.1, hX.below hh.2⟩
  clear h hn
  go_enter Try.func7, Try.ntmps7
  go_wp2_with (first
    | (go_at_call 8; refine (SH.out _ D0.out).mono ?_; rintro e w1 ⟨rfl, d1⟩; have D1 := hid_of d1; have l1 := loadO_run d1.bx; clear d1)
    | (go_at_call 10; refine (RG.out _ D1.out).mono ?_; rintro e w2 ⟨rfl, d2⟩; have D2 := hid_of d2; have l2 := loadO_run d2.bx; clear d2)
    | (go_at_call 11; refine (EN.out _ D2.out).mono ?_; rintro e w3 ⟨rfl, d3⟩))
  go_ret
  exact ⟨rfl, d3.be⟩
set_option maxHeartbeats 16000000 in
set_option maxRecDepth 20000 in
theorem back_none (w : World) (c : Oc) (o : Ob) (h : ObR w c o) (hw : Words o) (hn : rightB o = true) (ma : Option Addr) (m mc : Nat) (fm : Nat → Int) (hm : Src w ma m mc fm) (hm0 : m = 0) : Calls Try.prog 7 #[.agg c.cells, .slice ma m mc] w fun e w' => e = .returned (.bool true) ∧ Below w.heap.size w w' := by
  obtain ⟨sm, ti⟩ := right_small hn hw
  have fi := sm.fine ti
  have hbl := body_le sm ti
  have hlen := objL_len o
  obtain ⟨E, hE⟩ : ∃ E, (objL o).length = E + 4 := ⟨(objL o).length - 4, by omega⟩
  have hE4 : 4 ≤ E := by omega
  have hEb : E = (bodyL o).length + 4 := by omega
  have hbyt : AllB (objL o) := by
    unfold objL
    exact (AllB.app (by unfold markL; intro x hx; simp only [List.mem_cons, List.not_mem_nil, or_false] at hx; omega) (body_by fi)).app (wd_by _)
  have hmm : m ≤ 140737488351232 := hm.fit
  have D0 : Hid (DI w (w.alloc (.cells c.cells 31)) c o) := DI.mk' h (Below.refl _ _)
  have SH : Hid (∀ X, DI w X c o → Calls Try.prog 8 #[] X fun e Y => e = .returned (.bool true) ∧ DI w Y c o) := fun X hX => (shown_any X).mono fun e Y hh => ⟨hh.1, hX.below hh.2⟩
  have RG : Hid (∀ X, DI w X c o → Calls Try.prog 10 #[.agg c.cells] X fun e Y => e = .returned (.bool true) ∧ DI w Y c o) := fun X hX => (right_any X c o hX.rd).mono fun e Y hh => ⟨by rw [← hn]; exact hh.1, hX.below hh.2⟩
  have EN : Hid (∀ X, DI w X c o → Calls Try.prog 11 #[.agg c.cells] X fun e Y => ∃ g k, e = .returned (.tuple #[.slice (some ⟨g, 0, none⟩) ((E + 4 : Nat)) k, .int .i64 0]) ∧ Hid ((∃ B, Ow Y B (.slice (some ⟨g, 0, none⟩) (E + 4) k) (objL o)) ∧ DI w Y c o)) := fun X hX => (encode_yes X c o hX.rd hn fi (by omega)).mono fun e Y hh => by
    obtain ⟨a, n, k, h1, ⟨B, _, h2⟩, h3⟩ := hh
    obtain ⟨g, k2, hv, _, _⟩ := ow_at h2 (fun e => by rw [e] at hE; simp at hE)
    rw [hE] at hv
    rw [hv] at h1 h2
    exact ⟨g, k2, h1, ⟨B, h2⟩, hX.below h3⟩
  have DC : Hid (∀ Y g k, (∃ B, Ow Y B (.slice (some ⟨g, 0, none⟩) (E + 4) k) (objL o)) ∧ DI w Y c o → Calls Try.prog 14 #[.slice (some ⟨g, 0, none⟩) ((E + 4 : Nat)) k] Y fun e V => ∃ c2 Z, e = .returned (.tuple #[.agg (Oc.cells c2), .int .i64 0, .int .i64 0]) ∧ (storeO ⟨V.heap.size, 0, none⟩ (.agg c2.cells)).run Try.prog (V.alloc zeroO) = .ok () Z ∧ E ≤ k ∧ Hid (BI w Z V.heap.size c c2 o ∧ RdB Z (some ⟨g, 0, none⟩) E (fun i => (objL o).getD i 0))) := fun Y g k hY => by
    obtain ⟨⟨B, ho⟩, hD⟩ := hY
    obtain ⟨s1, s2, s3⟩ := ow_src ho hbyt (by omega)
    refine (decode_own ho hbyt (by omega)).mono fun e V hh => ?_
    obtain ⟨p1, p2⟩ := dec_of hn sm ti (lies_self (objL o))
    obtain ⟨c2, h1, h2, _, h4⟩ := hh
    rw [p1] at h1 h4
    obtain ⟨B2, _, h5⟩ := h4 rfl
    rw [p2] at h5
    obtain ⟨Z, z1, z2, z3⟩ := storeO_run (zero_at V) c2
    have t : Tq V Z (fun k => k = V.heap.size) := (Tq.below (P := fun k => k = V.heap.size) ((Below.refl _ _).alloc (Nat.le_refl _) _)).trans z3
    have bV : Below V.heap.size V Z := ⟨t.os, t.tape, t.output, t.size, fun k hk => t.blk k hk (by omega)⟩
    have bYZ : Below Y.heap.size Y Z := h2.trans (bV.mono h2.size)
    exact ⟨c2, Z, h1, z1, by omega, ⟨(bYZ.block _ hD.bx.lt).trans hD.bx, z2, (hD.below bYZ).rd, (h5.tq2 t fun k hk => by omega).rd fi.few, (hD.below bYZ).be⟩, (s1.less E (by omega)).below bYZ⟩
  have MK : Hid (∀ Z g k ga c2, BI w Z ga c c2 o ∧ RdB Z (some ⟨g, 0, none⟩) E (fun i => (objL o).getD i 0) → ∃ Y1 Y2 v2 Y3 g3 k3, (mkN 35 (.int .i64 0) (.int .i64 ((E : Int) + 4))).run Try.prog Z.drew = .ok (.slice (some ⟨Z.heap.size, 0, none⟩) 0 (E + 4)) Y1 ∧ (appN #[35, 35] 35 #[.slice (some ⟨Z.heap.size, 0, none⟩) 0 (E + 4), .slice (some ⟨g, 0, none⟩) E k]).run Try.prog Y1 = .ok v2 Y2 ∧ (appN #[35, 35] 35 #[v2, .slice ma m mc]).run Try.prog Y2 = .ok (.slice (some ⟨g3, 0, none⟩) ((E + m : Nat)) k3) Y3 ∧ Hid (Below Z.heap.size Z Y3 ∧ Ow Y3 Z.heap.size (.slice (some ⟨g3, 0, none⟩) (E + m) k3) (bl (fun i => (objL o).getD i 0) E ++ bl fm m) ∧ g3 < Y3.heap.size)) := fun Z g k ga c2 hZ => by
    obtain ⟨Y1, r1, o1, g1⟩ := make_row Z.drew Z.heap.size (E + 4) (Nat.le_refl _) (by omega)
    have b0 : Below Z.heap.size Z Z.drew := (Below.refl _ _).drew
    have b1 : Below Z.heap.size Z Y1 := b0.trans ((gb_none g1).mono (Nat.le_refl _))
    obtain ⟨v2, Y2, r2, o2, g2⟩ := app_bytes (X := Y1) (some ⟨g, 0, none⟩) E k _ o1 (hZ.2.below b1) (fun e => by cases e) b1.size (by simp; omega) (.inr (by omega))
    have b2 : Below Z.heap.size Z Y2 := gb_low b1 g2 (fun q e => own_lo o1 q e)
    obtain ⟨v3, Y3, r3, o3, g4⟩ := app_bytes (X := Y2) ma m mc fm o2 (hm.below (hZ.1.be.trans (b2.mono hZ.1.be.size))).rd hm.nil b2.size (by simp [bl_len]; omega) (.inl (by simp [bl_len]; omega))
    have b3 : Below Z.heap.size Z Y3 := gb_low b2 g4 (fun q e => own_lo o2 q e)
    rw [List.nil_append] at o3
    obtain ⟨g3, k3, hv, _, q2⟩ := ow_at o3 (fun e => by have := congrArg List.length e; simp [bl_len] at this; omega)
    rw [show (bl (fun i => (objL o).getD i 0) E ++ bl fm m).length = E + m by rw [List.length_append, bl_len, bl_len]] at hv
    rw [hv] at r3 o3
    exact ⟨Y1, Y2, v2, Y3, g3, k3, by simpa using r1, r2, r3, b3, o3, q2⟩
  -- the bytes with their sum
  obtain ⟨LL, hLL⟩ : ∃ LL, LL = bl (fun i => (objL o).getD i 0) E ++ bl fm m := ⟨_, rfl⟩
  have hLe : LL.length = E + m := by rw [hLL, List.length_append, bl_len, bl_len]
  have hpre : bl (fun i => (objL o).getD i 0) E = markL ++ bodyL o := by
    have hX : (markL ++ bodyL o).length = E := by rw [List.length_append, show markL.length = 4 from rfl]; omega
    rw [← hX]
    refine bl_lies (fun j hj => ?_)
    rw [Nat.zero_add]
    unfold objL
    rw [List.getD_eq_getElem?_getD, List.getD_eq_getElem?_getD, List.getElem?_append_left hj]
  have hmb : AllB (bl fm m) := fun x hx => by
    obtain ⟨j, hj, rfl⟩ := List.mem_map.1 hx
    exact hm.oct j (List.mem_range.1 hj)
  have hLb : AllB LL := by
    rw [hLL, hpre]
    exact (AllB.app (by unfold markL; intro x hx; simp only [List.mem_cons, List.not_mem_nil, or_false] at hx; omega) (body_by fi)).app hmb
  have hself : bl (fun i => LL.getD i 0) (E + m) = LL := by rw [← hLe]; exact bl_lies (lies_self LL)
  have hdec : (decR (fun i => (LL ++ wdL (fnv (fun i => LL.getD i 0) (E + m))).getD i 0) (LL ++ wdL (fnv (fun i => LL.getD i 0) (E + m))).length).2 = 0 := by
    subst hm0
    have hbl0 : bl fm 0 = [] := rfl
    have hLo : LL = markL ++ bodyL o := by rw [hLL, hpre, hbl0, List.append_nil]
    have hob : LL ++ wdL (fnv (fun i => LL.getD i 0) (E + 0)) = objL o := by
      unfold objL
      rw [hLo, Nat.add_zero, show E = (markL ++ bodyL o).length by rw [List.length_append, show markL.length = 4 from rfl]; omega]
    rw [hob, (dec_of hn sm ti (lies_self (objL o))).1]
  have n2 : ((m : Int) == 0) = true := by simp; omega
  have SU : Hid (∀ Z Y3 g3 k3, Below Z.heap.size Z Y3 ∧ Ow Y3 Z.heap.size (.slice (some ⟨g3, 0, none⟩) (E + m) k3) LL ∧ g3 < Y3.heap.size → Calls Try.prog 17 #[.slice (some ⟨g3, 0, none⟩) ((E + m : Nat)) k3] Y3 fun e V => ∃ a n k, e = .returned (.slice a n k) ∧ Hid (Below Z.heap.size Z V ∧ Ow V Y3.heap.size (.slice a n k) (LL ++ wdL (fnv (fun i => LL.getD i 0) (E + m))))) := fun Z Y3 g3 k3 hZ => by
    have hr : RdB Y3 (some ⟨g3, 0, none⟩) (E + m) (fun i => LL.getD i 0) := by
      refine ⟨by unfold maxLen; omega, .inr ⟨g3, 0, rfl, fun i hi => ?_⟩⟩
      have hi2 : i < LL.length := by omega
      have hmem : LL.getD i 0 ∈ LL := by rw [List.getD_eq_getElem?_getD, List.getElem?_eq_getElem hi2]; exact List.getElem_mem hi2
      rw [Nat.zero_add]
      exact ⟨(ow_cell hZ.2.1 i hi2).1, hLb _ hmem⟩
    refine (summed_any Y3 g3 0 (E + m) k3 _ hr hZ.2.2 (by omega) (by omega)).mono fun e V hh => ?_
    obtain ⟨v, h1, h2, h3⟩ := hh
    rw [hself] at h2
    obtain ⟨a, n, k, rfl⟩ := own_slice h2
    exact ⟨a, n, k, h1, hZ.1.trans (h3.mono hZ.1.size), h2⟩
  have DE : Hid (∀ Z Y3 V a n k, Below Z.heap.size Z V ∧ Ow V Y3 (.slice a n k) (LL ++ wdL (fnv (fun i => LL.getD i 0) (E + m))) → Calls Try.prog 14 #[.slice a n k] V fun e U => ∃ c6 p6 Z6, e = .returned (.tuple #[.agg (Oc.cells c6), .int .i64 p6, .int .i64 0]) ∧ (storeO ⟨U.heap.size, 0, none⟩ (.agg c6.cells)).run Try.prog (U.alloc zeroO) = .ok () Z6 ∧ Hid (Below Z.heap.size Z Z6)) := fun Z Y3 V a n k hV => by
    refine (decode_own hV.2 (hLb.app (wd_by _)) (by rw [List.length_append]; simp [wdL]; omega)).mono fun e U hh => ?_
    obtain ⟨c6, h1, h2, _, _⟩ := hh
    rw [hdec] at h1
    obtain ⟨Z6, z1, z2, z3⟩ := storeO_run (zero_at U) c6
    have b1 : Below Z.heap.size Z U := hV.1.trans (h2.mono hV.1.size)
    exact ⟨c6, _, Z6, h1, z1, Below.of_tq (b1.alloc b1.size _) z3 fun k hk => by have := b1.size; omega⟩
  have SE : Hid (∀ X ga c2, BI w X ga c c2 o → Calls Try.prog 13 #[.agg c.cells, .agg c2.cells] X fun e Y => e = .returned (.bool true) ∧ Below w.heap.size w Y) := fun X ga c2 hX => (same_eq X c c2 o hX.ro hX.rp).mono fun e Y hh => ⟨hh.1, hX.be.trans (hh.2.mono hX.be.size)⟩
  rw [← hLL] at MK
  have d4 : decide (((E + 4 : Nat) : Int) < 8) = false := decide_eq_false (by omega)
  have d5 : decide ((E : Int) + 4 < 8) = false := decide_eq_false (by omega)
  have d6 : ¬ E + 4 < 8 := by omega
  have d7 : IntKind.i64.wrap (((E + 4 : Nat) : Int) - 4) = (E : Int) := by rw [IntWalk.i64_left, IntWalk.wrap64_in] <;> omega
  have d8 : IntKind.i64.wrap (E : Int) = (E : Int) := by rw [IntWalk.i64_left, IntWalk.wrap64_in] <;> omega
  have d9 : (0 : Int) ≤ (E : Int) := by omega
  simp only [zeroO] at DC DE
  generalize fnv (fun i => LL.getD i 0) (E + m) = sv at *
  clear h hw hn hm sm ti fi hbyt hlen hE hEb hbl hLL hpre hmb hLb hself hLe hdec hm0
  go_enter Try.func7, Try.ntmps7
  go_wp2_with (first
    | (go_at_call 8; refine (SH.out _ D0.out).mono ?_; rintro e w1 ⟨rfl, d1⟩; have D1 := hid_of d1; have l1 := loadO_run d1.bx; clear d1)
    | (go_at_call 10; refine (RG.out _ D1.out).mono ?_; rintro e w2 ⟨rfl, d2⟩; have D2 := hid_of d2; have l2 := loadO_run d2.bx; clear d2)
    | (go_at_call 11; refine (EN.out _ D2.out).mono ?_; rintro e w3 ⟨g, k, rfl, H3⟩)
    | (go_at_call 14; refine (DC.out _ g k H3.out).mono ?_; rintro e w4 ⟨c2, Z, rfl, z1, hEk, HZ⟩; obtain ⟨Y1, Y2, v2, Y3, g3, k3, r1, r2, r3, HY⟩ := MK.out Z g k _ c2 HZ.out; have hEk2 : (E : Int) ≤ (k : Int) := Int.ofNat_le.2 hEk))
  refine wp_region_held_drew (S := (fun _ => True)) (by kernel_rfl) trivial (fun hHeld => ?_)
  refine wpAnyH_take (i := 0) (v := ?_) rfl (by kernel_rfl) (by kernel_rfl) (by kernel_rfl) (fun _ _ _ h => h) (Or.inl ⟨by kernel_rfl, ?y0r⟩) trivial ?r0r
  case y0r => (intro wq hSw; go_simp; try rfl)
  simp only [Act.put, List.setIfInBounds_toArray, List.set_cons_zero, List.set_cons_succ]
  refine wpAnyH_take (i := 1) (v := ?_) rfl (by kernel_rfl) (by kernel_rfl) (by kernel_rfl) (fun _ _ _ h => h) (Or.inl ⟨by kernel_rfl, ?y1r⟩) trivial ?r1r
  case y1r => (intro wq hSw; go_simp; try rfl)
  simp only [Act.put, List.setIfInBounds_toArray, List.set_cons_zero, List.set_cons_succ]
  refine wpAnyH_take (i := 3) (v := ?_) rfl (by kernel_rfl) (by kernel_rfl) (by kernel_rfl) (fun _ _ _ h => h) (Or.inl ⟨by kernel_rfl, ?y3r⟩) trivial ?r3r
  case y3r => (intro wq hSw; go_simp; try rfl)
  simp only [Act.put, List.setIfInBounds_toArray, List.set_cons_zero, List.set_cons_succ]
  refine wpAnyH_take (i := 4) (v := ?_) rfl (by kernel_rfl) (by kernel_rfl) (by kernel_rfl) (fun _ _ _ h => h) (Or.inl ⟨by kernel_rfl, ?y4r⟩) trivial ?r4r
  case y4r => (intro wq hSw; go_simp; try rfl)
  simp only [Act.put, List.setIfInBounds_toArray, List.set_cons_zero, List.set_cons_succ]
  refine wpAnyH_take (i := 5) (v := ?_) rfl (by kernel_rfl) (by kernel_rfl) (by kernel_rfl) (fun _ _ _ h => h) (Or.inl ⟨by kernel_rfl, ?y5r⟩) trivial ?r5r
  case y5r => (intro wq hSw; go_simp; try rfl)
  simp only [Act.put, List.setIfInBounds_toArray, List.set_cons_zero, List.set_cons_succ]
  refine wpAnyH_take (i := 6) (v := ?_) rfl (by kernel_rfl) (by kernel_rfl) (by kernel_rfl) (fun _ _ _ h => h) (Or.inl ⟨by kernel_rfl, ?y6r⟩) trivial ?r6r
  case y6r => (intro wq hSw; go_simp; try rfl)
  simp only [Act.put, List.setIfInBounds_toArray, List.set_cons_zero, List.set_cons_succ]
  refine wpAnyH_take (i := 7) (v := ?_) rfl (by kernel_rfl) (by kernel_rfl) (by kernel_rfl) (fun _ _ _ h => h) (Or.inl ⟨by kernel_rfl, ?y7r⟩) trivial ?r7r
  case y7r => (intro wq hSw; go_simp; try rfl)
  simp only [Act.put, List.setIfInBounds_toArray, List.set_cons_zero, List.set_cons_succ]
  refine wpAnyH_ready (rs := [2]) (by kernel_rfl) (by simp) ?_
  refine AllReadyH.cons rfl (fun K hK => ?_) AllReadyH.nil
  go_simp
  refine hK.out _ _ trivial (fun _ => ?_)
  clear hK K
  refine wpAnyH_ready (rs := [8]) (by kernel_rfl) (by simp) ?_
  refine AllReadyH.cons rfl (fun K hK => ?_) AllReadyH.nil
  go_simp
  refine hK.out _ _ trivial (fun _ => ?_)
  clear hK K
  refine wpAnyH_ready (rs := [9]) (by kernel_rfl) (by simp) ?_
  refine AllReadyH.cons rfl (fun K hK => ?_) AllReadyH.nil
  go_simp
  refine hK.out _ _ trivial (fun _ => ?_)
  clear hK K
  refine wpAnyH_done (by kernel_rfl) ?_ _
  go_wp2_with (first
    | (go_at_call 17; refine (SU.out Z Y3 g3 k3 HY.out).mono ?_; rintro e w5 ⟨a5, n5, k5, rfl, H5⟩)
    | (go_at_call 14; refine (DE.out Z _ _ a5 n5 k5 H5.out).mono ?_; rintro e w6 ⟨c6, p6, Z6, rfl, z6, H6⟩; have B6 := hid_of (HZ.out.1.below H6.out); have lo := loadO_run B6.out.bo; have lp := loadO_run B6.out.bp)
    | (go_at_call 13; refine (SE.out _ _ c2 B6.out).mono ?_; rintro e w7 ⟨rfl, hb7⟩))
  go_ret
  exact ⟨rfl, hb7⟩
set_option maxHeartbeats 16000000 in
set_option maxRecDepth 20000 in
theorem back_more (w : World) (c : Oc) (o : Ob) (h : ObR w c o) (hw : Words o) (hn : rightB o = true) (ma : Option Addr) (m mc : Nat) (fm : Nat → Int) (hm : Src w ma m mc fm) (hm0 : 0 < m) : Calls Try.prog 7 #[.agg c.cells, .slice ma m mc] w fun e w' => e = .returned (.bool true) ∧ Below w.heap.size w w' := by
  obtain ⟨sm, ti⟩ := right_small hn hw
  have fi := sm.fine ti
  have hbl := body_le sm ti
  have hlen := objL_len o
  obtain ⟨E, hE⟩ : ∃ E, (objL o).length = E + 4 := ⟨(objL o).length - 4, by omega⟩
  have hE4 : 4 ≤ E := by omega
  have hEb : E = (bodyL o).length + 4 := by omega
  have hbyt : AllB (objL o) := by
    unfold objL
    exact (AllB.app (by unfold markL; intro x hx; simp only [List.mem_cons, List.not_mem_nil, or_false] at hx; omega) (body_by fi)).app (wd_by _)
  have hmm : m ≤ 140737488351232 := hm.fit
  have D0 : Hid (DI w (w.alloc (.cells c.cells 31)) c o) := DI.mk' h (Below.refl _ _)
  have SH : Hid (∀ X, DI w X c o → Calls Try.prog 8 #[] X fun e Y => e = .returned (.bool true) ∧ DI w Y c o) := fun X hX => (shown_any X).mono fun e Y hh => ⟨hh.1, hX.below hh.2⟩
  have RG : Hid (∀ X, DI w X c o → Calls Try.prog 10 #[.agg c.cells] X fun e Y => e = .returned (.bool true) ∧ DI w Y c o) := fun X hX => (right_any X c o hX.rd).mono fun e Y hh => ⟨by rw [← hn]; exact hh.1, hX.below hh.2⟩
  have EN : Hid (∀ X, DI w X c o → Calls Try.prog 11 #[.agg c.cells] X fun e Y => ∃ g k, e = .returned (.tuple #[.slice (some ⟨g, 0, none⟩) ((E + 4 : Nat)) k, .int .i64 0]) ∧ Hid ((∃ B, Ow Y B (.slice (some ⟨g, 0, none⟩) (E + 4) k) (objL o)) ∧ DI w Y c o)) := fun X hX => (encode_yes X c o hX.rd hn fi (by omega)).mono fun e Y hh => by
    obtain ⟨a, n, k, h1, ⟨B, _, h2⟩, h3⟩ := hh
    obtain ⟨g, k2, hv, _, _⟩ := ow_at h2 (fun e => by rw [e] at hE; simp at hE)
    rw [hE] at hv
    rw [hv] at h1 h2
    exact ⟨g, k2, h1, ⟨B, h2⟩, hX.below h3⟩
  have DC : Hid (∀ Y g k, (∃ B, Ow Y B (.slice (some ⟨g, 0, none⟩) (E + 4) k) (objL o)) ∧ DI w Y c o → Calls Try.prog 14 #[.slice (some ⟨g, 0, none⟩) ((E + 4 : Nat)) k] Y fun e V => ∃ c2 Z, e = .returned (.tuple #[.agg (Oc.cells c2), .int .i64 0, .int .i64 0]) ∧ (storeO ⟨V.heap.size, 0, none⟩ (.agg c2.cells)).run Try.prog (V.alloc zeroO) = .ok () Z ∧ E ≤ k ∧ Hid (BI w Z V.heap.size c c2 o ∧ RdB Z (some ⟨g, 0, none⟩) E (fun i => (objL o).getD i 0))) := fun Y g k hY => by
    obtain ⟨⟨B, ho⟩, hD⟩ := hY
    obtain ⟨s1, s2, s3⟩ := ow_src ho hbyt (by omega)
    refine (decode_own ho hbyt (by omega)).mono fun e V hh => ?_
    obtain ⟨p1, p2⟩ := dec_of hn sm ti (lies_self (objL o))
    obtain ⟨c2, h1, h2, _, h4⟩ := hh
    rw [p1] at h1 h4
    obtain ⟨B2, _, h5⟩ := h4 rfl
    rw [p2] at h5
    obtain ⟨Z, z1, z2, z3⟩ := storeO_run (zero_at V) c2
    have t : Tq V Z (fun k => k = V.heap.size) := (Tq.below (P := fun k => k = V.heap.size) ((Below.refl _ _).alloc (Nat.le_refl _) _)).trans z3
    have bV : Below V.heap.size V Z := ⟨t.os, t.tape, t.output, t.size, fun k hk => t.blk k hk (by omega)⟩
    have bYZ : Below Y.heap.size Y Z := h2.trans (bV.mono h2.size)
    exact ⟨c2, Z, h1, z1, by omega, ⟨(bYZ.block _ hD.bx.lt).trans hD.bx, z2, (hD.below bYZ).rd, (h5.tq2 t fun k hk => by omega).rd fi.few, (hD.below bYZ).be⟩, (s1.less E (by omega)).below bYZ⟩
  have MK : Hid (∀ Z g k ga c2, BI w Z ga c c2 o ∧ RdB Z (some ⟨g, 0, none⟩) E (fun i => (objL o).getD i 0) → ∃ Y1 Y2 v2 Y3 g3 k3, (mkN 35 (.int .i64 0) (.int .i64 ((E : Int) + 4))).run Try.prog Z.drew = .ok (.slice (some ⟨Z.heap.size, 0, none⟩) 0 (E + 4)) Y1 ∧ (appN #[35, 35] 35 #[.slice (some ⟨Z.heap.size, 0, none⟩) 0 (E + 4), .slice (some ⟨g, 0, none⟩) E k]).run Try.prog Y1 = .ok v2 Y2 ∧ (appN #[35, 35] 35 #[v2, .slice ma m mc]).run Try.prog Y2 = .ok (.slice (some ⟨g3, 0, none⟩) ((E + m : Nat)) k3) Y3 ∧ Hid (Below Z.heap.size Z Y3 ∧ Ow Y3 Z.heap.size (.slice (some ⟨g3, 0, none⟩) (E + m) k3) (bl (fun i => (objL o).getD i 0) E ++ bl fm m) ∧ g3 < Y3.heap.size)) := fun Z g k ga c2 hZ => by
    obtain ⟨Y1, r1, o1, g1⟩ := make_row Z.drew Z.heap.size (E + 4) (Nat.le_refl _) (by omega)
    have b0 : Below Z.heap.size Z Z.drew := (Below.refl _ _).drew
    have b1 : Below Z.heap.size Z Y1 := b0.trans ((gb_none g1).mono (Nat.le_refl _))
    obtain ⟨v2, Y2, r2, o2, g2⟩ := app_bytes (X := Y1) (some ⟨g, 0, none⟩) E k _ o1 (hZ.2.below b1) (fun e => by cases e) b1.size (by simp; omega) (.inr (by omega))
    have b2 : Below Z.heap.size Z Y2 := gb_low b1 g2 (fun q e => own_lo o1 q e)
    obtain ⟨v3, Y3, r3, o3, g4⟩ := app_bytes (X := Y2) ma m mc fm o2 (hm.below (hZ.1.be.trans (b2.mono hZ.1.be.size))).rd hm.nil b2.size (by simp [bl_len]; omega) (.inl (by simp [bl_len]; omega))
    have b3 : Below Z.heap.size Z Y3 := gb_low b2 g4 (fun q e => own_lo o2 q e)
    rw [List.nil_append] at o3
    obtain ⟨g3, k3, hv, _, q2⟩ := ow_at o3 (fun e => by have := congrArg List.length e; simp [bl_len] at this; omega)
    rw [show (bl (fun i => (objL o).getD i 0) E ++ bl fm m).length = E + m by rw [List.length_append, bl_len, bl_len]] at hv
    rw [hv] at r3 o3
    exact ⟨Y1, Y2, v2, Y3, g3, k3, by simpa using r1, r2, r3, b3, o3, q2⟩
  -- the bytes with their sum
  obtain ⟨LL, hLL⟩ : ∃ LL, LL = bl (fun i => (objL o).getD i 0) E ++ bl fm m := ⟨_, rfl⟩
  have hLe : LL.length = E + m := by rw [hLL, List.length_append, bl_len, bl_len]
  have hpre : bl (fun i => (objL o).getD i 0) E = markL ++ bodyL o := by
    have hX : (markL ++ bodyL o).length = E := by rw [List.length_append, show markL.length = 4 from rfl]; omega
    rw [← hX]
    refine bl_lies (fun j hj => ?_)
    rw [Nat.zero_add]
    unfold objL
    rw [List.getD_eq_getElem?_getD, List.getD_eq_getElem?_getD, List.getElem?_append_left hj]
  have hmb : AllB (bl fm m) := fun x hx => by
    obtain ⟨j, hj, rfl⟩ := List.mem_map.1 hx
    exact hm.oct j (List.mem_range.1 hj)
  have hLb : AllB LL := by
    rw [hLL, hpre]
    exact (AllB.app (by unfold markL; intro x hx; simp only [List.mem_cons, List.not_mem_nil, or_false] at hx; omega) (body_by fi)).app hmb
  have hself : bl (fun i => LL.getD i 0) (E + m) = LL := by rw [← hLe]; exact bl_lies (lies_self LL)
  obtain ⟨er, her⟩ : ∃ er, (decR (fun i => (LL ++ wdL (fnv (fun i => LL.getD i 0) (E + m))).getD i 0) (LL ++ wdL (fnv (fun i => LL.getD i 0) (E + m))).length).2 = er := ⟨_, rfl⟩
  have hdec := her
  have her0 : er ≠ 0 := by
    rw [← her]
    refine dec_more sm ti ?_ ?_
    · have h1 : Lies (fun i => (LL ++ wdL (fnv (fun i => LL.getD i 0) (E + m))).getD i 0) 0 (LL ++ wdL (fnv (fun i => LL.getD i 0) (E + m))) := lies_self _
      have h2 := h1.left
      rw [hLL, hpre] at h2 ⊢
      exact h2.left
    · rw [List.length_append, hLe]; simp [wdL]; omega
  have n1 : (er == 0) = false := by simpa using her0
  have n2 : ((m : Int) == 0) = false := by simp; omega
  have n3 : ¬ m = 0 := by omega
  clear her
  have SU : Hid (∀ Z Y3 g3 k3, Below Z.heap.size Z Y3 ∧ Ow Y3 Z.heap.size (.slice (some ⟨g3, 0, none⟩) (E + m) k3) LL ∧ g3 < Y3.heap.size → Calls Try.prog 17 #[.slice (some ⟨g3, 0, none⟩) ((E + m : Nat)) k3] Y3 fun e V => ∃ a n k, e = .returned (.slice a n k) ∧ Hid (Below Z.heap.size Z V ∧ Ow V Y3.heap.size (.slice a n k) (LL ++ wdL (fnv (fun i => LL.getD i 0) (E + m))))) := fun Z Y3 g3 k3 hZ => by
    have hr : RdB Y3 (some ⟨g3, 0, none⟩) (E + m) (fun i => LL.getD i 0) := by
      refine ⟨by unfold maxLen; omega, .inr ⟨g3, 0, rfl, fun i hi => ?_⟩⟩
      have hi2 : i < LL.length := by omega
      have hmem : LL.getD i 0 ∈ LL := by rw [List.getD_eq_getElem?_getD, List.getElem?_eq_getElem hi2]; exact List.getElem_mem hi2
      rw [Nat.zero_add]
      exact ⟨(ow_cell hZ.2.1 i hi2).1, hLb _ hmem⟩
    refine (summed_any Y3 g3 0 (E + m) k3 _ hr hZ.2.2 (by omega) (by omega)).mono fun e V hh => ?_
    obtain ⟨v, h1, h2, h3⟩ := hh
    rw [hself] at h2
    obtain ⟨a, n, k, rfl⟩ := own_slice h2
    exact ⟨a, n, k, h1, hZ.1.trans (h3.mono hZ.1.size), h2⟩
  have DE : Hid (∀ Z Y3 V a n k, Below Z.heap.size Z V ∧ Ow V Y3 (.slice a n k) (LL ++ wdL (fnv (fun i => LL.getD i 0) (E + m))) → Calls Try.prog 14 #[.slice a n k] V fun e U => ∃ c6 p6 Z6, e = .returned (.tuple #[.agg (Oc.cells c6), .int .i64 p6, .int .i64 er]) ∧ (storeO ⟨U.heap.size, 0, none⟩ (.agg c6.cells)).run Try.prog (U.alloc zeroO) = .ok () Z6 ∧ Hid (Below Z.heap.size Z Z6)) := fun Z Y3 V a n k hV => by
    refine (decode_own hV.2 (hLb.app (wd_by _)) (by rw [List.length_append]; simp [wdL]; omega)).mono fun e U hh => ?_
    obtain ⟨c6, h1, h2, _, _⟩ := hh
    rw [hdec] at h1
    obtain ⟨Z6, z1, z2, z3⟩ := storeO_run (zero_at U) c6
    have b1 : Below Z.heap.size Z U := hV.1.trans (h2.mono hV.1.size)
    exact ⟨c6, _, Z6, h1, z1, Below.of_tq (b1.alloc b1.size _) z3 fun k hk => by have := b1.size; omega⟩
  have SE : Hid (∀ X ga c2, BI w X ga c c2 o → Calls Try.prog 13 #[.agg c.cells, .agg c2.cells] X fun e Y => e = .returned (.bool true) ∧ Below w.heap.size w Y) := fun X ga c2 hX => (same_eq X c c2 o hX.ro hX.rp).mono fun e Y hh => ⟨hh.1, hX.be.trans (hh.2.mono hX.be.size)⟩
  rw [← hLL] at MK
  have d4 : decide (((E + 4 : Nat) : Int) < 8) = false := decide_eq_false (by omega)
  have d5 : decide ((E : Int) + 4 < 8) = false := decide_eq_false (by omega)
  have d6 : ¬ E + 4 < 8 := by omega
  have d7 : IntKind.i64.wrap (((E + 4 : Nat) : Int) - 4) = (E : Int) := by rw [IntWalk.i64_left, IntWalk.wrap64_in] <;> omega
  have d8 : IntKind.i64.wrap (E : Int) = (E : Int) := by rw [IntWalk.i64_left, IntWalk.wrap64_in] <;> omega
  have d9 : (0 : Int) ≤ (E : Int) := by omega
  simp only [zeroO] at DC DE
  generalize fnv (fun i => LL.getD i 0) (E + m) = sv at *
  clear h hw hn hm sm ti fi hbyt hlen hE hEb hbl hLL hpre hmb hLb hself hLe hdec her0
  go_enter Try.func7, Try.ntmps7
  go_wp2_with (first
    | (go_at_call 8; refine (SH.out _ D0.out).mono ?_; rintro e w1 ⟨rfl, d1⟩; have D1 := hid_of d1; have l1 := loadO_run d1.bx; clear d1)
    | (go_at_call 10; refine (RG.out _ D1.out).mono ?_; rintro e w2 ⟨rfl, d2⟩; have D2 := hid_of d2; have l2 := loadO_run d2.bx; clear d2)
    | (go_at_call 11; refine (EN.out _ D2.out).mono ?_; rintro e w3 ⟨g, k, rfl, H3⟩)
    | (go_at_call 14; refine (DC.out _ g k H3.out).mono ?_; rintro e w4 ⟨c2, Z, rfl, z1, hEk, HZ⟩; obtain ⟨Y1, Y2, v2, Y3, g3, k3, r1, r2, r3, HY⟩ := MK.out Z g k _ c2 HZ.out; have hEk2 : (E : Int) ≤ (k : Int) := Int.ofNat_le.2 hEk))
  refine wp_region_held_drew (S := (fun _ => True)) (by kernel_rfl) trivial (fun hHeld => ?_)
  refine wpAnyH_take (i := 0) (v := ?_) rfl (by kernel_rfl) (by kernel_rfl) (by kernel_rfl) (fun _ _ _ h => h) (Or.inl ⟨by kernel_rfl, ?y0r⟩) trivial ?r0r
  case y0r => (intro wq hSw; go_simp; try rfl)
  simp only [Act.put, List.setIfInBounds_toArray, List.set_cons_zero, List.set_cons_succ]
  refine wpAnyH_take (i := 1) (v := ?_) rfl (by kernel_rfl) (by kernel_rfl) (by kernel_rfl) (fun _ _ _ h => h) (Or.inl ⟨by kernel_rfl, ?y1r⟩) trivial ?r1r
  case y1r => (intro wq hSw; go_simp; try rfl)
  simp only [Act.put, List.setIfInBounds_toArray, List.set_cons_zero, List.set_cons_succ]
  refine wpAnyH_take (i := 3) (v := ?_) rfl (by kernel_rfl) (by kernel_rfl) (by kernel_rfl) (fun _ _ _ h => h) (Or.inl ⟨by kernel_rfl, ?y3r⟩) trivial ?r3r
  case y3r => (intro wq hSw; go_simp; try rfl)
  simp only [Act.put, List.setIfInBounds_toArray, List.set_cons_zero, List.set_cons_succ]
  refine wpAnyH_take (i := 4) (v := ?_) rfl (by kernel_rfl) (by kernel_rfl) (by kernel_rfl) (fun _ _ _ h => h) (Or.inl ⟨by kernel_rfl, ?y4r⟩) trivial ?r4r
  case y4r => (intro wq hSw; go_simp; try rfl)
  simp only [Act.put, List.setIfInBounds_toArray, List.set_cons_zero, List.set_cons_succ]
  refine wpAnyH_take (i := 5) (v := ?_) rfl (by kernel_rfl) (by kernel_rfl) (by kernel_rfl) (fun _ _ _ h => h) (Or.inl ⟨by kernel_rfl, ?y5r⟩) trivial ?r5r
  case y5r => (intro wq hSw; go_simp; try rfl)
  simp only [Act.put, List.setIfInBounds_toArray, List.set_cons_zero, List.set_cons_succ]
  refine wpAnyH_take (i := 6) (v := ?_) rfl (by kernel_rfl) (by kernel_rfl) (by kernel_rfl) (fun _ _ _ h => h) (Or.inl ⟨by kernel_rfl, ?y6r⟩) trivial ?r6r
  case y6r => (intro wq hSw; go_simp; try rfl)
  simp only [Act.put, List.setIfInBounds_toArray, List.set_cons_zero, List.set_cons_succ]
  refine wpAnyH_take (i := 7) (v := ?_) rfl (by kernel_rfl) (by kernel_rfl) (by kernel_rfl) (fun _ _ _ h => h) (Or.inl ⟨by kernel_rfl, ?y7r⟩) trivial ?r7r
  case y7r => (intro wq hSw; go_simp; try rfl)
  simp only [Act.put, List.setIfInBounds_toArray, List.set_cons_zero, List.set_cons_succ]
  refine wpAnyH_ready (rs := [2]) (by kernel_rfl) (by simp) ?_
  refine AllReadyH.cons rfl (fun K hK => ?_) AllReadyH.nil
  go_simp
  refine hK.out _ _ trivial (fun _ => ?_)
  clear hK K
  refine wpAnyH_ready (rs := [8]) (by kernel_rfl) (by simp) ?_
  refine AllReadyH.cons rfl (fun K hK => ?_) AllReadyH.nil
  go_simp
  refine hK.out _ _ trivial (fun _ => ?_)
  clear hK K
  refine wpAnyH_ready (rs := [9]) (by kernel_rfl) (by simp) ?_
  refine AllReadyH.cons rfl (fun K hK => ?_) AllReadyH.nil
  go_simp
  refine hK.out _ _ trivial (fun _ => ?_)
  clear hK K
  refine wpAnyH_done (by kernel_rfl) ?_ _
  go_wp2_with (first
    | (go_at_call 17; refine (SU.out Z Y3 g3 k3 HY.out).mono ?_; rintro e w5 ⟨a5, n5, k5, rfl, H5⟩)
    | (go_at_call 14; refine (DE.out Z _ _ a5 n5 k5 H5.out).mono ?_; rintro e w6 ⟨c6, p6, Z6, rfl, z6, H6⟩; have B6 := hid_of (HZ.out.1.below H6.out); have lo := loadO_run B6.out.bo; have lp := loadO_run B6.out.bp)
    | (go_at_call 13; refine (SE.out _ _ c2 B6.out).mono ?_; rintro e w7 ⟨rfl, hb7⟩))
  go_ret
  exact ⟨ret_bool (by simp), hb7⟩
theorem back_any (w : World) (c : Oc) (o : Ob) (h : ObR w c o) (hw : Words o) (ma : Option Addr) (m mc : Nat) (fm : Nat → Int) (hm : Src w ma m mc fm) : Calls Try.prog 7 #[.agg c.cells, .slice ma m mc] w fun e w' => e = .returned (.bool true) ∧ Below w.heap.size w w' := by
  cases hr : rightB o
  · exact back_no w c o h hr ma m mc
  · by_cases h0 : m = 0
    · exact back_none w c o h hw hr ma m mc fm hm h0
    · exact back_more w c o h hw hr ma m mc fm hm (by omega)
end Go.Proofs.Ytjpaepmnmlpjkaa

namespace Go.Proofs.Ytjpaepmnmlpjkaa
open Go.ChangeShapes Go.WideShapes Go.ChangeAt Go.RowKit
set_option linter.unusedVariables false
theorem wfU {z : Int} (h : (Lit.int .u32 z).wf = true) : 0 ≤ z ∧ z ≤ 4294967295 := by simpa [Lit.wf, IntKind.min, IntKind.max, IntKind.signed, IntKind.bits] using h
theorem at_of {l : List Value} {k : Nat} {v : Value} (h : (l.drop k).take 1 = [v]) : l[k]? = some v := by
  have : ((l.drop k).take 1)[0]? = some v := by rw [h]; rfl
  simpa using this
theorem some_of {α : Type} {xs : List α} {n i : Nat} (h : xs.length = n) (hi : i < n) : ∃ y, xs[i]? = some y := ⟨xs[i]'(by omega), List.getElem?_eq_getElem (by omega)⟩
section
variable {H : Type} {enc : TypeId × Value → H} {W : World} {base : Nat} {spare : Nat → Bool} {held : Bool}
theorem num_at {n : Nat} {l : List Value} {k : Nat} {t : TypeId} {q : IntKind} {xs : List (DataW H × List MemPlace)} {i m : Nat} (hu : Try.prog.underlying t = some (.int q)) (hcl : Try.prog.cellsOf t = 1) (hm : xs.length = m) (hi : i < m) (h : DataW.trod enc Try.prog W base spare held n t ((l.drop k).take (Try.prog.cellsOf t)) = xs[i]?) :
    ∃ z, l[k]? = some (.int q z) ∧ (Lit.int q z).wf = true := by
  obtain ⟨y, hy⟩ := some_of hm hi
  rw [hy, hcl] at h
  obtain ⟨z, e1, _, wf⟩ := DataW.trod_int hu h
  exact ⟨z, at_of e1, wf⟩
theorem str_at {n : Nat} {l : List Value} {k : Nat} {t : TypeId} {xs : List (DataW H × List MemPlace)} {i m : Nat} (hu : Try.prog.underlying t = some .string) (hcl : Try.prog.cellsOf t = 1) (hm : xs.length = m) (hi : i < m) (h : DataW.trod enc Try.prog W base spare held n t ((l.drop k).take (Try.prog.cellsOf t)) = xs[i]?) :
    ∃ s, l[k]? = some (.string s) ∧ s.size ≤ maxLen := by
  obtain ⟨y, hy⟩ := some_of hm hi
  rw [hy, hcl] at h
  obtain ⟨s, e1, _, hs⟩ := DataW.trod_string hu h
  exact ⟨s, at_of e1, hs⟩
/-- A part of a struct that is one cell. -/
theorem part_at {n : Nat} {l : List Value} {k : Nat} {t : TypeId} {xs : List (DataW H × List MemPlace)} {i m : Nat} (hcl : Try.prog.cellsOf t = 1) (hm : xs.length = m) (hi : i < m) (h : DataW.trod enc Try.prog W base spare held n t ((l.drop k).take (Try.prog.cellsOf t)) = xs[i]?) :
    ∃ y, DataW.trod enc Try.prog W base spare held n t ((l.drop k).take 1) = some y := by
  obtain ⟨y, hy⟩ := some_of hm hi
  rw [hy, hcl] at h
  exact ⟨y, h⟩
theorem w_all {P : Program} {e : TypeId} {d : DataW H} {m : Nat} : ∀ {l : List (DataW H)}, d ∈ l → m ∈ d.weights P e → m ∈ DataW.weightsAll P e l
  | x :: r, hd, hm => by
    rw [DataW.weightsAll, List.mem_append]
    rcases List.mem_cons.1 hd with e | e
    · subst e; exact .inl hm
    · exact .inr (w_all e hm)
/-- No part is too great. -/
def Lt (t : TypeId) (d : DataW H) : Prop := ∀ m ∈ d.weights Try.prog t, m ≤ reachBytes
theorem Lt.len {t e : TypeId} {es sp : List (DataW H)} (h : Lt t (.slice es sp)) (hu : Try.prog.underlying t = some (.slice e)) : (es.length + sp.length) * Try.prog.bytesOf e ≤ reachBytes := h _ (by simp [DataW.weights, hu])
theorem Lt.el {t e : TypeId} {es sp : List (DataW H)} (h : Lt t (.slice es sp)) (hu : Try.prog.underlying t = some (.slice e)) {d : DataW H} (hd : d ∈ es) : Lt e d := fun m hm => h m (by
  simp only [DataW.weights, hu, List.mem_cons, List.mem_append]
  exact .inr (.inl (w_all hd hm)))
theorem Lt.part {t : TypeId} {fs : Array Field} {ps : List (DataW H)} (h : Lt t (.agg ps)) (hu : Try.prog.underlying t = some (.struct fs)) {j : Nat} {f : Field} {d : DataW H} (hf : fs[j]? = some f) (hd : ps[j]? = some d) : Lt f.type d := fun m hm => h m (by
  simp only [DataW.weights, hu]
  exact DataW.weights_mem_each (j := j) (t := f.type) (d := d) (by rw [List.getElem?_map]; simp [hf]) hd m hm)
/-- A slice whose elements are of k cells: what is so of each element's cells. -/
theorem open_row {α : Type} {t e : TypeId} {k fuel : Nat} {cs : List Value} {x : DataW H × List MemPlace} (ht : Try.prog.underlying t = some (.slice e)) (hk : Try.prog.cellsOf e = k) (hk0 : 0 < k) (hby : 1 ≤ Try.prog.bytesOf e) (h : DataW.trod enc Try.prog W base (fun _ => true) held fuel t cs = some x) (hw : Lt t x.1) (enc1 : α → Array Value) (ok : α → Prop) (dflt : α)
    (hel : ∀ (n : Nat) (l : List Value) (y : DataW H × List MemPlace), DataW.trod enc Try.prog W base (fun _ => true) held n e l = some y → Lt e y.1 → ∃ a : α, ok a ∧ l = (enc1 a).toList) (hsz : ∀ a, (enc1 a).size = k) :
    ∃ (s : Sl) (xs : List α), cs = [.slice s.a s.n s.c] ∧ (∀ a ∈ xs, ok a) ∧ RdV W k s xs.length (flat enc1 xs) := by
  have hfl : ∀ (l : List α), (flat enc1 l).length = l.length * k := fun l => by
    induction l with
    | nil => simp [flat]
    | cons c r ih =>
      have : flat enc1 (c :: r) = (enc1 c).toList ++ flat enc1 r := rfl
      rw [this, List.length_append, ih, Array.length_toList, hsz, List.length_cons, Nat.add_mul]; omega
  rcases Go.Deep.open_slice ht h with ⟨hcs, _⟩ | ⟨a, len, cap, m, n, D, Pl, hcs, _, hl, hm, hmm, hx, hall⟩
  · exact ⟨⟨none, 0, 0⟩, [], hcs, (fun a ha => by cases ha), rfl, by simp [flat], by simp, .inl rfl⟩
  · have hmc : m = cap := by simpa using hmm
    rw [hx] at hw
    have hlen : len ≤ 140737488355328 := by
      have h1 := hw.len ht
      simp only [List.length_map, List.length_range] at h1
      have h2 : len * 1 ≤ (len + (m - len)) * Try.prog.bytesOf e := Nat.mul_le_mul (by omega) hby
      unfold reachBytes at h1
      omega
    have hpick : ∀ i, ∃ b : α, i < len → ok b ∧ ∀ j, j < k → W.cell? ((a.add (i * k)).add j) = (enc1 b)[j]? := fun i => by
      by_cases hi : i < len
      · obtain ⟨cs', hc, htr⟩ := hall i (by omega)
        rw [hk] at hc
        obtain ⟨b, hb, hl2⟩ := hel n cs' _ htr (hw.el ht (List.mem_map.2 ⟨i, List.mem_range.2 hi, rfl⟩))
        have hg := (World.cells?_some hc).2.2
        refine ⟨b, fun _ => ⟨hb, fun j hj => ?_⟩⟩
        rw [hg j hj, hl2]
        simp
      · exact ⟨dflt, fun h => absurd h hi⟩
    obtain ⟨g, hg⟩ := Classical.axiomOfChoice hpick
    refine ⟨⟨some a, len, cap⟩, (List.range len).map g, hcs, fun b hb => ?_, by simp, hfl _, by simpa using hlen, ?_⟩
    · obtain ⟨i, hi, rfl⟩ := List.mem_map.1 hb
      exact (hg i (List.mem_range.1 hi)).1
    · by_cases h0 : len = 0
      · exact .inl (by simp [h0])
      · right
        have first := (hg 0 (by omega)).2 0 hk0
        rw [Array.getElem?_eq_getElem (by rw [hsz]; exact hk0)] at first
        obtain ⟨b, off, spot⟩ := a
        have hspot : spot = none := by
          have := World.cell?_spot first
          simpa [Addr.add] using this
        subst hspot
        refine ⟨b, off, rfl, by have := World.block_lt_of_cell? W _ first; simpa [Go.WideShapes.add_plain] using this, fun j u hu => ?_⟩
        have hjl : j < len * k := by
          obtain ⟨h1, _⟩ := List.getElem?_eq_some_iff.1 hu
          rw [hfl] at h1
          simpa using h1
        have hq : j / k < len := Nat.div_lt_of_lt_mul (by rw [Nat.mul_comm]; exact hjl)
        have hr : j % k < k := Nat.mod_lt _ hk0
        have hjk : j = j / k * k + j % k := by rw [Nat.mul_comm]; exact (Nat.div_add_mod j k).symm
        have hfa := flat_at enc1 k hsz ((List.range len).map g) (j / k) (by simpa using hq) (j % k) hr
        rw [← hjk, hu] at hfa
        have hc := (hg (j / k) hq).2 (j % k) hr
        simp only [Go.WideShapes.add_plain] at hc
        rw [Nat.add_assoc, ← hjk] at hc
        rw [hc, hfa]
        simp
theorem flat_one {α : Type} (val : α → Value) (l : List α) : flat (fun x => #[val x]) l = l.map val := by
  induction l with
  | nil => rfl
  | cons a r ih =>
    have : flat (fun x => #[val x]) (a :: r) = [val a] ++ flat (fun x => #[val x]) r := rfl
    rw [this, ih]; rfl
theorem cells_int : Try.prog.cellsOf 3 = 1 := by kernel_rfl
theorem cells_u32 : Try.prog.cellsOf 22 = 1 := by kernel_rfl
theorem cells_str : Try.prog.cellsOf 9 = 1 := by kernel_rfl
theorem cells_bool : Try.prog.cellsOf 4 = 1 := by kernel_rfl
theorem cells_ints : Try.prog.cellsOf 25 = 1 := by kernel_rfl
theorem row_ints {fuel : Nat} {cs : List Value} {x : DataW H × List MemPlace} (h : DataW.trod enc Try.prog W base (fun _ => true) held fuel 25 cs = some x) (hw : Lt 25 x.1) : ∃ (s : Sl) (xs : List Int), cs = [.slice s.a s.n s.c] ∧ RdV W 1 s xs.length (xs.map (Value.int .i64)) := by
  obtain ⟨s, xs, h1, _, h3⟩ := open_row Try.underlying25 cells_int (by omega) (of_decide_eq_true (by kernel_rfl)) h hw (fun z : Int => #[Value.int .i64 z]) (fun _ => True) 0 (fun n l y hy _ => by
    obtain ⟨z, e1, _, _⟩ := DataW.trod_int Try.underlying3 hy
    exact ⟨z, trivial, e1⟩) (fun _ => rfl)
  rw [flat_one] at h3
  exact ⟨s, xs, h1, h3⟩
theorem row_u32s {fuel : Nat} {cs : List Value} {x : DataW H × List MemPlace} (h : DataW.trod enc Try.prog W base (fun _ => true) held fuel 24 cs = some x) (hw : Lt 24 x.1) : ∃ (s : Sl) (xs : List Int), cs = [.slice s.a s.n s.c] ∧ (∀ z ∈ xs, U32 z) ∧ RdV W 1 s xs.length (xs.map (Value.int .u32)) := by
  obtain ⟨s, xs, h1, h2, h3⟩ := open_row Try.underlying24 cells_u32 (by omega) (of_decide_eq_true (by kernel_rfl)) h hw (fun z : Int => #[Value.int .u32 z]) U32 0 (fun n l y hy _ => by
    obtain ⟨z, e1, _, e3⟩ := DataW.trod_int Try.underlying22 hy
    exact ⟨z, wfU e3, e1⟩) (fun _ => rfl)
  rw [flat_one] at h3
  exact ⟨s, xs, h1, h2, h3⟩
theorem row_strs {fuel : Nat} {cs : List Value} {x : DataW H × List MemPlace} (h : DataW.trod enc Try.prog W base (fun _ => true) held fuel 26 cs = some x) (hw : Lt 26 x.1) : ∃ (s : Sl) (xs : List ByteArray), cs = [.slice s.a s.n s.c] ∧ (∀ z ∈ xs, z.size ≤ 140737488355328) ∧ RdV W 1 s xs.length (xs.map Value.string) := by
  obtain ⟨s, xs, h1, h2, h3⟩ := open_row Try.underlying26 cells_str (by omega) (of_decide_eq_true (by kernel_rfl)) h hw (fun z : ByteArray => #[Value.string z]) (fun z => z.size ≤ 140737488355328) ⟨#[]⟩ (fun n l y hy hl => by
    obtain ⟨z, e1, e2, _⟩ := DataW.trod_string Try.underlying9 hy
    refine ⟨z, ?_, e1⟩
    have := hl z.data.toList.length (by rw [e2]; simp [DataW.weights])
    rw [Array.length_toList] at this
    unfold reachBytes at this
    show z.data.size ≤ _
    omega) (fun _ => rfl)
  rw [flat_one] at h3
  exact ⟨s, xs, h1, h2, h3⟩
theorem row_bools {fuel : Nat} {cs : List Value} {x : DataW H × List MemPlace} (h : DataW.trod enc Try.prog W base (fun _ => true) held fuel 27 cs = some x) (hw : Lt 27 x.1) : ∃ (s : Sl) (xs : List Bool), cs = [.slice s.a s.n s.c] ∧ RdV W 1 s xs.length (xs.map Value.bool) := by
  obtain ⟨s, xs, h1, _, h3⟩ := open_row Try.underlying27 cells_bool (by omega) (of_decide_eq_true (by kernel_rfl)) h hw (fun z : Bool => #[Value.bool z]) (fun _ => True) false (fun n l y hy _ => by
    obtain ⟨z, e1, _⟩ := DataW.trod_bool Try.underlying4 hy
    exact ⟨z, trivial, e1⟩) (fun _ => rfl)
  rw [flat_one] at h3
  exact ⟨s, xs, h1, h3⟩
/-- A struct's part that is one cell: what it is, and that it is not too great. -/
theorem field1 {t : TypeId} {fs : Array Field} {fuel : Nat} {l : List Value} {x : DataW H × List MemPlace} (hu : Try.prog.underlying t = some (.struct fs)) (h : DataW.trod enc Try.prog W base spare held fuel t l = some x) (hw : Lt t x.1) (j : Nat) (f : Field) (hf : fs[j]? = some f) (hc : Try.prog.cellsOf f.type = 1) :
    ∃ (y : DataW H × List MemPlace) (n : Nat), DataW.trod enc Try.prog W base spare held n f.type ((l.drop f.offset).take 1) = some y ∧ Lt f.type y.1 ∧ l.length = Try.prog.cellsOf t := by
  obtain ⟨xs, n, _, hx, hl, hlen, hfld⟩ := DataW.trod_struct hu h
  have hj : j < xs.length := by rw [hlen]; exact (Array.getElem?_eq_some_iff.1 hf).1
  have h1 := hfld j f hf
  rw [hc, List.getElem?_eq_getElem hj] at h1
  refine ⟨xs[j], n, h1, ?_, hl⟩
  rw [hx] at hw
  exact hw.part hu hf (by rw [List.getElem?_map, List.getElem?_eq_getElem hj]; rfl)
theorem list2 {l : List Value} {a b : Value} (hl : l.length = 2) (h0 : l[0]? = some a) (h1 : l[1]? = some b) : l = [a, b] := by
  match l, hl with
  | [x, y], _ => simp at h0 h1; rw [h0, h1]
theorem list3 {l : List Value} {a b c : Value} (hl : l.length = 3) (h0 : l[0]? = some a) (h1 : l[1]? = some b) (h2 : l[2]? = some c) : l = [a, b, c] := by
  match l, hl with
  | [x, y, z], _ => simp at h0 h1 h2; rw [h0, h1, h2]
theorem list4 {l : List Value} {a b c d : Value} (hl : l.length = 4) (h0 : l[0]? = some a) (h1 : l[1]? = some b) (h2 : l[2]? = some c) (h3 : l[3]? = some d) : l = [a, b, c, d] := by
  match l, hl with
  | [x, y, z, u], _ => simp at h0 h1 h2 h3; rw [h0, h1, h2, h3]
theorem cells_imp : Try.prog.cellsOf 55 = 2 := by kernel_rfl
theorem cells_fix : Try.prog.cellsOf 58 = 4 := by kernel_rfl
theorem cells_dsc : Try.prog.cellsOf 48 = 3 := by kernel_rfl
theorem str_small {n : Nat} {l : List Value} {y : DataW H × List MemPlace} (h : DataW.trod enc Try.prog W base spare held n 9 l = some y) (hl : Lt 9 y.1) : ∃ z : ByteArray, l = [.string z] ∧ z.size ≤ 140737488355328 := by
  obtain ⟨z, e1, e2, _⟩ := DataW.trod_string Try.underlying9 h
  refine ⟨z, e1, ?_⟩
  have := hl z.data.toList.length (by rw [e2]; simp [DataW.weights])
  rw [Array.length_toList] at this
  unfold reachBytes at this
  show z.data.size ≤ _
  omega
theorem row_imps {fuel : Nat} {cs : List Value} {x : DataW H × List MemPlace} (h : DataW.trod enc Try.prog W base (fun _ => true) held fuel 23 cs = some x) (hw : Lt 23 x.1) : ∃ (s : Sl) (xs : List (ByteArray × Int)), cs = [.slice s.a s.n s.c] ∧ (∀ z ∈ xs, z.1.size ≤ 140737488355328 ∧ U32 z.2) ∧ RdV W 2 s xs.length (flat iEnc xs) :=
  open_row Try.underlying23 cells_imp (by omega) (of_decide_eq_true (by kernel_rfl)) h hw iEnc (fun z => z.1.size ≤ 140737488355328 ∧ U32 z.2) (⟨#[]⟩, 0) (fun n l y hy hl => by
    obtain ⟨y0, n0, a1, a2, a3⟩ := field1 Try.underlying55 hy hl 0 _ rfl cells_str
    obtain ⟨y1, n1, b1, b2, _⟩ := field1 Try.underlying55 hy hl 1 _ rfl cells_u32
    obtain ⟨z, e1, e2⟩ := str_small a1 a2
    obtain ⟨k, f1, _, f3⟩ := DataW.trod_int Try.underlying22 b1
    exact ⟨(z, k), ⟨e2, wfU f3⟩, list2 (a3.trans cells_imp) (at_of e1) (at_of f1)⟩) (fun _ => rfl)
theorem row_fixs {fuel : Nat} {cs : List Value} {x : DataW H × List MemPlace} (h : DataW.trod enc Try.prog W base (fun _ => true) held fuel 29 cs = some x) (hw : Lt 29 x.1) : ∃ (s : Sl) (xs : List (Int × Int × Int × Int)), cs = [.slice s.a s.n s.c] ∧ (∀ z ∈ xs, True) ∧ RdV W 4 s xs.length (flat xEnc xs) :=
  open_row Try.underlying29 cells_fix (by omega) (of_decide_eq_true (by kernel_rfl)) h hw xEnc (fun _ => True) (0, 0, 0, 0) (fun n l y hy hl => by
    obtain ⟨y0, n0, a1, _, a3⟩ := field1 Try.underlying58 hy hl 0 _ rfl cells_int
    obtain ⟨y1, n1, b1, _, _⟩ := field1 Try.underlying58 hy hl 1 _ rfl cells_int
    obtain ⟨y2, n2, c1, _, _⟩ := field1 Try.underlying58 hy hl 2 _ rfl cells_int
    obtain ⟨y3, n3, d1, _, _⟩ := field1 Try.underlying58 hy hl 3 _ rfl cells_int
    obtain ⟨k0, e0, _, _⟩ := DataW.trod_int Try.underlying3 a1
    obtain ⟨k1, e1, _, _⟩ := DataW.trod_int Try.underlying3 b1
    obtain ⟨k2, e2, _, _⟩ := DataW.trod_int Try.underlying3 c1
    obtain ⟨k3, e3, _, _⟩ := DataW.trod_int Try.underlying3 d1
    exact ⟨(k0, k1, k2, k3), trivial, list4 (a3.trans cells_fix) (at_of e0) (at_of e1) (at_of e2) (at_of e3)⟩) (fun _ => rfl)
theorem row_dscs {fuel : Nat} {cs : List Value} {x : DataW H × List MemPlace} (h : DataW.trod enc Try.prog W base (fun _ => true) held fuel 28 cs = some x) (hw : Lt 28 x.1) : ∃ (s : Sl) (xs : List ((Int × Int × List Int) × Sl)), cs = [.slice s.a s.n s.c] ∧ (∀ p ∈ xs, RdV W 1 p.2 p.1.2.2.length (p.1.2.2.map (Value.int .i64))) ∧ RdV W 3 s xs.length (flat dEnc xs) :=
  open_row Try.underlying28 cells_dsc (by omega) (of_decide_eq_true (by kernel_rfl)) h hw dEnc (fun p => RdV W 1 p.2 p.1.2.2.length (p.1.2.2.map (Value.int .i64))) ((0, 0, []), ⟨none, 0, 0⟩) (fun n l y hy hl => by
    obtain ⟨y0, n0, a1, _, a3⟩ := field1 Try.underlying48 hy hl 0 _ rfl cells_int
    obtain ⟨y1, n1, b1, _, _⟩ := field1 Try.underlying48 hy hl 1 _ rfl cells_int
    obtain ⟨y2, n2, c1, c2, _⟩ := field1 Try.underlying48 hy hl 2 _ rfl cells_ints
    obtain ⟨k0, e0, _, _⟩ := DataW.trod_int Try.underlying3 a1
    obtain ⟨k1, e1, _, _⟩ := DataW.trod_int Try.underlying3 b1
    obtain ⟨s, ts, e2, e3⟩ := row_ints c1 c2
    exact ⟨((k0, k1, ts), s), e3, list3 (a3.trans cells_dsc) (at_of e0) (at_of e1) (at_of e2)⟩) (fun _ => rfl)
theorem cells_obj : Try.prog.cellsOf 31 = 13 := by kernel_rfl
theorem c_imps : Try.prog.cellsOf 23 = 1 := by kernel_rfl
theorem c_u32s : Try.prog.cellsOf 24 = 1 := by kernel_rfl
theorem c_strs : Try.prog.cellsOf 26 = 1 := by kernel_rfl
theorem c_bools : Try.prog.cellsOf 27 = 1 := by kernel_rfl
theorem c_dscs : Try.prog.cellsOf 28 = 1 := by kernel_rfl
theorem c_fixs : Try.prog.cellsOf 29 = 1 := by kernel_rfl
/-- An object that came in. -/
theorem obj_of {fuel : Nat} {l : List Value} {x : DataW H × List MemPlace} (h : DataW.trod enc Try.prog W base (fun _ => true) held fuel 31 l = some x) (hw : Lt 31 x.1) : ∃ (c : Oc) (o : Ob), l = c.cells.toList ∧ ObR W c o ∧ Words o := by
  have U := Try.underlying31
  obtain ⟨y0, n0, t0, w0, hl⟩ := field1 U h hw 0 _ rfl cells_str
  obtain ⟨y1, n1, t1, w1, _⟩ := field1 U h hw 1 _ rfl cells_u32
  obtain ⟨y2, n2, t2, w2, _⟩ := field1 U h hw 2 _ rfl c_imps
  obtain ⟨y3, n3, t3, w3, _⟩ := field1 U h hw 3 _ rfl c_u32s
  obtain ⟨y4, n4, t4, w4, _⟩ := field1 U h hw 4 _ rfl cells_ints
  obtain ⟨y5, n5, t5, w5, _⟩ := field1 U h hw 5 _ rfl c_strs
  obtain ⟨y6, n6, t6, w6, _⟩ := field1 U h hw 6 _ rfl c_bools
  obtain ⟨y7, n7, t7, w7, _⟩ := field1 U h hw 7 _ rfl cells_int
  obtain ⟨y8, n8, t8, w8, _⟩ := field1 U h hw 8 _ rfl cells_ints
  obtain ⟨y9, n9, t9, w9, _⟩ := field1 U h hw 9 _ rfl cells_ints
  obtain ⟨y10, n10, t10, w10, _⟩ := field1 U h hw 10 _ rfl c_strs
  obtain ⟨y11, n11, t11, w11, _⟩ := field1 U h hw 11 _ rfl c_dscs
  obtain ⟨y12, n12, t12, w12, _⟩ := field1 U h hw 12 _ rfl c_fixs
  obtain ⟨nm, e0, s0⟩ := str_small t0 w0
  obtain ⟨key, e1, _, f1⟩ := DataW.trod_int Try.underlying22 t1
  obtain ⟨s2, im, e2, g2, r2⟩ := row_imps t2 w2
  obtain ⟨s3, co, e3, g3, r3⟩ := row_u32s t3 w3
  obtain ⟨s4, pr, e4, r4⟩ := row_ints t4 w4
  obtain ⟨s5, na, e5, g5, r5⟩ := row_strs t5 w5
  obtain ⟨s6, ex, e6, r6⟩ := row_bools t6 w6
  obtain ⟨ini, e7, _, _⟩ := DataW.trod_int Try.underlying3 t7
  obtain ⟨s8, va, e8, r8⟩ := row_ints t8 w8
  obtain ⟨s9, sh, e9, r9⟩ := row_ints t9 w9
  obtain ⟨s10, st, e10, g10, r10⟩ := row_strs t10 w10
  obtain ⟨s11, ds, e11, g11, r11⟩ := row_dscs t11 w11
  obtain ⟨s12, fx, e12, _, r12⟩ := row_fixs t12 w12
  refine ⟨⟨nm, key, s2, s3, s4, s5, s6, ini, s8, s9, s10, s11, s12⟩, ⟨nm, key, im, co, pr, na, ex, ini, va, sh, st, ds.map (·.1), fx⟩, ?_, ⟨rfl, rfl, rfl, r2, r3, r4, r5, r6, r8, r9, r10, ⟨ds, rfl, r11, g11⟩, r12, s0, fun z hz => (g2 z hz).1, g5, g10⟩, ⟨wfU f1, fun z hz => (g2 z hz).2, g3⟩⟩
  have hl13 : l.length = 13 := hl.trans cells_obj
  have q0 : l[0]? = some (.string nm) := at_of e0
  have q1 : l[1]? = some (.int .u32 key) := at_of e1
  have q2 : l[2]? = some (.slice s2.a s2.n s2.c) := at_of e2
  have q3 : l[3]? = some (.slice s3.a s3.n s3.c) := at_of e3
  have q4 : l[4]? = some (.slice s4.a s4.n s4.c) := at_of e4
  have q5 : l[5]? = some (.slice s5.a s5.n s5.c) := at_of e5
  have q6 : l[6]? = some (.slice s6.a s6.n s6.c) := at_of e6
  have q7 : l[7]? = some (.int .i64 ini) := at_of e7
  have q8 : l[8]? = some (.slice s8.a s8.n s8.c) := at_of e8
  have q9 : l[9]? = some (.slice s9.a s9.n s9.c) := at_of e9
  have q10 : l[10]? = some (.slice s10.a s10.n s10.c) := at_of e10
  have q11 : l[11]? = some (.slice s11.a s11.n s11.c) := at_of e11
  have q12 : l[12]? = some (.slice s12.a s12.n s12.c) := at_of e12
  clear h t0 t1 t2 t3 t4 t5 t6 t7 t8 t9 t10 t11 t12 e0 e1 e2 e3 e4 e5 e6 e7 e8 e9 e10 e11 e12
  match l, hl13 with
  | [z0, z1, z2, z3, z4, z5, z6, z7, z8, z9, z10, z11, z12], _ =>
    simp only [List.getElem?_cons_zero, List.getElem?_cons_succ, Option.some.injEq] at q0 q1 q2 q3 q4 q5 q6 q7 q8 q9 q10 q11 q12
    rw [q0, q1, q2, q3, q4, q5, q6, q7, q8, q9, q10, q11, q12]
    rfl
end
end Go.Proofs.Ytjpaepmnmlpjkaa

namespace Go.Proofs.Ytjpaepmnmlpjkaa.objBack
open Go.ChangeShapes Go.WideShapes Go.ChangeAt Go.RowKit
open Go.ChangeMaps (open_string shut_string)
set_option linter.unusedVariables false

theorem own : ownKnob Try.prog.godebug = none := by kernel_rfl
theorem laidOut : laidOutB Try.prog = true := by kernel_rfl
theorem bytes5 : Try.prog.bytesOf 5 = 1 := by kernel_rfl

def IsRow (k : IntKind) (w : World) (a : Option Addr) (len cap : Nat) (zs : List Int) : Prop :=
  (a = none ∧ len = 0 ∧ cap = 0 ∧ zs = []) ∨
  ∃ x, a = some x ∧ len ≤ cap ∧ cap ≤ maxLen ∧ zs.length = cap ∧ (∀ i, i < zs.length → w.cell? (x.add i) = some (.int k (zs.getD i 0))) ∧ ∀ n ∈ zs, (Lit.int k n).wf = true
theorem src_of {w : World} {a : Option Addr} {len cap : Nat} {zs : List Int} (h : IsRow .u8 w a len cap zs) (hl : len ≤ 140737488351232) : Src w a len cap (fun i => zs.getD i 0) := by
  refine ⟨rdb_of_row h, ?_, hl⟩
  rcases h with ⟨_, h1, h2, _⟩ | ⟨x, rfl, _⟩
  · exact fun _ => ⟨h1, h2⟩
  · exact fun h => by cases h

set_option maxRecDepth 100000 in
theorem lifted (os : Go.Os) (started : os.Started) (H : Type) (enc : TypeId × Value → H) :
    ReturnsInHanded {} Try.checked os 7 .any (Rows.objBackSpec.pre6 enc Try.prog Try.f7 Rows.objBackRow.domain false) (Rows.objBackSpec.post enc Try.prog Try.f7 false true false false) := by
  refine returnsInHanded_of_change_sized (C := Try.checked) own started (by kernel_rfl) Try.func7
    (ChangeSpec.witness6 (enc := enc) (C := Try.checked) false ⟨#[], #[.agg #[.string ⟨#[]⟩, .int .u32 0, .slice none 0 0, .slice none 0 0, .slice none 0 0, .slice none 0 0, .slice none 0 0, .int .i64 0, .slice none 0 0, .slice none 0 0, .slice none 0 0, .slice none 0 0, .slice none 0 0], .slice none 0 0], []⟩ 8 (by kernel_rfl) (by kernel_rfl) (by kernel_rfl) (by kernel_rfl)) ?_
  intro W base args ds gs before hval0 hW hcnd hsz0 _
  have hsz : (DataW.weightsEach Try.prog (Try.f7.params.toList ++ Rows.objBackSpec.plain.varTypes Try.prog) (ds ++ gs)).all (· ≤ reachBytes) = true := hsz0
  have hval : ∀ (j : Nat) t v, Try.f7.params[j]? = some t → args[j]? = some v → Value.okWide Try.prog W .any base t v := hval0
  have hW' := hW
  obtain ⟨p, q, hA0, hV, rfl, hfz, hnd⟩ := hW
  have hA : DataW.TrodAll enc Try.prog W 0 (fun _ => true) true Try.f7.params.toList args.toList ds p := hA0
  rw [Try.params7] at hA hval hsz
  obtain ⟨v0, vs0, d0, ds0, p0, q0, hargs, rfl, rfl, h0, r0⟩ := trodAll_cons hA
  obtain ⟨v1, vs1, d1, ds1, p1, q1, rfl, rfl, rfl, h1, r1⟩ := trodAll_cons r0
  obtain ⟨rfl, rfl, rfl⟩ := trodAll_nil r1
  obtain rfl : args = #[v0, v1] := by cases args; simp_all
  obtain ⟨rfl, rfl⟩ := trodVars_none hV
  have k0 := h0
  have k1 := h1
  have lt0 : ∀ x ∈ p0, x.block < W.heap.size := by obtain ⟨m, hm⟩ := k0; exact DataW.trod_lt m _ _ _ hm
  have lt1 : ∀ x ∈ p1, x.block < W.heap.size := by obtain ⟨m, hm⟩ := k1; exact DataW.trod_lt m _ _ _ hm
  obtain ⟨c, o, hv0, hR, hWd⟩ : ∃ (c : Oc) (o : Ob), v0 = .agg c.cells ∧ ObR W c o ∧ Words o := by
    obtain ⟨cs, rfl, _⟩ := okWide_struct Try.underlying31 (hval 0 31 v0 rfl rfl)
    obtain ⟨fuel, hf⟩ := h0
    have hl : Lt 31 d0 := fun m hm => by
      have := List.all_eq_true.1 hsz _ (DataW.weights_mem_each (j := 0) (t := 31) (d := d0) rfl rfl m hm)
      simpa using this
    obtain ⟨c, o, e1, e2, e3⟩ := obj_of hf hl
    have e4 : cs.toList = c.cells.toList := e1
    exact ⟨c, o, by rw [Array.toList_inj.1 e4], e2, e3⟩
  subst hv0
  obtain ⟨a0, len0, cap0, rfl⟩ := okWide_slice Try.underlying35 (hval 1 35 v1 rfl rfl)
  obtain ⟨z0, w0, hreach⟩ : ∃ zs, IsRow .u8 W a0 len0 cap0 zs ∧ len0 ≤ 140737488351232 := by
    obtain ⟨fuel, hf⟩ := h1
    rcases open_ints Try.underlying35 Try.underlying5 (by kernel_rfl) hf with ⟨hcs, _⟩ | ⟨x, l, c, zs, hcs, _, hl, hm, hz, hx, hcell, hwz⟩
    · simp [Value.cells] at hcs
      obtain ⟨rfl, rfl, rfl⟩ := hcs
      exact ⟨[], .inl ⟨rfl, rfl, rfl, rfl⟩, by omega⟩
    · simp [Value.cells] at hcs
      obtain ⟨rfl, rfl, rfl⟩ := hcs
      have hz' : zs.length = cap0 := by simpa using hz
      refine ⟨zs, .inr ⟨_, rfl, hl, hm, hz', hcell, hwz⟩, ?_⟩
      simp only [Prod.mk.injEq] at hx
      obtain ⟨rfl, rfl⟩ := hx
      have hw := sized_slice hsz (j := 1) (t := 35) (e := 5) rfl rfl Try.underlying35
      rw [bytes5] at hw
      simp only [lits, List.length_map, List.length_take, List.length_drop, reachBytes] at hw
      omega
  clear hA0 hval0
  refine (back_any W c o hR hWd a0 len0 cap0 _ (src_of w0 hreach)).mono fun e W' ⟨he, bel⟩ => ?_
  subst he
  exact ⟨_, rfl, _, _, _, [], _, [], hW', trodAll_mk1 (shut_bool Try.underlying4 _), (trodAll_cons_mk (Below.trod laidOut (by kernel_rfl) (of_decide_eq_true (by kernel_rfl)) k0 bel lt0) (trodAll_cons_mk (Below.trod laidOut (by kernel_rfl) (of_decide_eq_true (by kernel_rfl)) k1 bel lt1) trodAll_mk0)), rfl, bel.frame _, fun h => by cases h⟩

theorem over : Rows.objBackRow.holds Try.pinned (OpenSpec.ofChange Rows.objBackSpec) :=
  OpenClaim.holds_of_wide 7 Try.f7 rfl rfl rfl rfl rfl rfl rfl ⟨rfl, rfl, rfl, rfl, rfl⟩ rfl rfl rfl rfl rfl (by kernel_rfl) Try.func7 (by kernel_rfl)
    (of_decide_eq_true (by kernel_rfl)) (by unfold Func.isWrapper; first | (rw [if_pos (by decide +kernel)]; kernel_rfl) | (rw [if_neg (by decide +kernel)]; exact ⟨rfl, rfl⟩))
    (fun os started H enc _ => lifted os started H enc)
end Go.Proofs.Ytjpaepmnmlpjkaa.objBack

namespace Go.Proofs.Ytjpaepmnmlpjkaa
/-- The given statement. -/
theorem objBack_holds : Rows.ObjBackSaid := objBack.over
#print axioms objBack_holds
end Go.Proofs.Ytjpaepmnmlpjkaa
