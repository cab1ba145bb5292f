/-
  Layer 9, plain: trees that are read have as many parts at a node, at most, as there are tokens.
  Layer 9: Same, of two trees that are the same.
-/
import Derived.Test.YtejcjhoojpoamaaDoorDsg
import Derived.Test.YtejcjhoojpoamaaDoorIdx
namespace Go.Proofs.YtejcjhoojpoamaaDoor
set_option linter.unusedVariables false
set_option linter.unusedSimpArgs false

inductive Kb (B : Nat) : Nd → Prop
  | mk (k : Int) (t : Bs) (n : Int) (f : Bool) (kids : List Nd) (p : Nat) (hl : kids.length ≤ B) (hk : ∀ x ∈ kids, Kb B x) : Kb B (.mk k t n f kids p)
theorem Kb.len {B : Nat} {n : Nd} (h : Kb B n) : n.kids.length ≤ B := by cases h; assumption
theorem Kb.all {B : Nat} {n : Nd} (h : Kb B n) : ∀ x ∈ n.kids, Kb B x := by cases h; assumption
theorem Kb.zero {B : Nat} (k : Int) (t : Bs) (n : Int) (f : Bool) (p : Nat) : Kb B (.mk k t n f [] p) := .mk k t n f [] p (Nat.zero_le _) (by simp)
theorem Kb.one {B : Nat} {x : Nd} (hB : 2 ≤ B) (hx : Kb B x) (k : Int) (t : Bs) (n : Int) (f : Bool) (p : Nat) : Kb B (.mk k t n f [x] p) := .mk k t n f [x] p (by simp; omega) (by simpa using hx)
theorem Kb.two {B : Nat} {x y : Nd} (hB : 2 ≤ B) (hx : Kb B x) (hy : Kb B y) (k : Int) (t : Bs) (n : Int) (f : Bool) (p : Nat) : Kb B (.mk k t n f [x, y] p) := .mk k t n f [x, y] p (by simpa using hB) (by simp; exact ⟨hx, hy⟩)
theorem Kb.idx {B : Nat} (hB : 2 ≤ B) (p : Nat) : ∀ (l : List Nd) (a : Nd), Kb B a → (∀ x ∈ l, Kb B x) → Kb B (idxN p a l)
  | [], a, ha, _ => ha
  | x :: r, a, ha, h => Kb.idx hB p r _ (Kb.two hB ha (h x (by simp)) 33 [] 0 false p) (fun y hy => h y (by simp [hy]))
def ntB (B : Nat) : NT → Prop
  | .simpleL l => Kb B l
  | .termL l => Kb B l
  | .desigL l => Kb B l
  | .row s p acc => s ≠ [] ∧ (∀ x ∈ acc, Kb B x) ∧ ntB B p ∧ (p = .expr ∨ p = .elem)
  | _ => True
def acL : NT → Nat
  | .row _ _ acc => acc.length
  | _ => 0
theorem wd_len {t : List Tok} (h : wd t ≠ []) : 1 ≤ t.length := by
  cases t with
  | nil => exact absurd rfl h
  | cons a r => simp
theorem name_len {t : List Tok} {x : Tok} {r : List Tok} (h : nameR t = .ok x r) : r = t.tail := by
  unfold nameR at h; split at h
  · simp only [Rs.ok.injEq] at h; exact h.2.symm
  · cases h
theorem must_len {s : Bs} {t : List Tok} {x : Tok} {r : List Tok} (h : mustR s t = .ok x r) : r = t.tail := by
  unfold mustR at h; split at h
  · simp only [Rs.ok.injEq] at h; exact h.2.symm
  · cases h
theorem begin_len {o : Nat} {t : List Tok} {x : Tok} {r : List Tok} (h : beginR o t = .ok x r) : r = t.tail := by
  unfold beginR at h; split at h
  · cases h
  · simp only [Rs.ok.injEq] at h; exact h.2.symm
theorem bind_inv {α β : Type} {x : Rs α} {f : α → List Tok → Rs β} {b : β} {r : List Tok} (h : x.bind f = .ok b r) : ∃ a s, x = .ok a s ∧ f a s = .ok b r := by
  cases x with
  | ok a s => exact ⟨a, s, rfl, h⟩
  | bad p e => cases h
theorem run_small (B : Nat) (hB : 2 ≤ B) : ∀ (f : Nat) (nt : NT) (o : Nat) (t : List Tok) (n : Nd) (r : List Tok), run f nt o t = .ok n r → ntB B nt → acL nt + t.length + 1 ≤ B → Kb B n ∧ r.length ≤ t.length ∧ (∀ s p acc, nt = .row s p acc → n.kids.length ≤ acc.length + t.length + 1) := by
  intro f
  induction f with
  | zero => intro nt o t n r h; cases h
  | succ f ih =>
    intro nt o t n r h hn hl
    have tl := List.length_tail (l := t)
    cases nt with
    | expr =>
      rw [run] at h
      obtain ⟨l, s, h1, h2⟩ := bind_inv h
      obtain ⟨k1, z1, _⟩ := ih _ _ _ _ _ h1 trivial hl
      have zt := List.length_tail (l := s)
      split at h2
      · obtain ⟨y, u, h3, h4⟩ := bind_inv h2
        obtain ⟨k2, z2, _⟩ := ih _ _ _ _ _ h3 trivial (by simp only [acL] at hl ⊢; omega)
        simp only [Rs.ok.injEq] at h4
        obtain ⟨rfl, rfl⟩ := h4
        exact ⟨Kb.two hB k1 k2 _ _ _ _ _, by omega, fun _ _ _ e => by cases e⟩
      · simp only [Rs.ok.injEq] at h2
        obtain ⟨rfl, rfl⟩ := h2
        exact ⟨k1, z1, fun _ _ _ e => by cases e⟩
    | simple =>
      rw [run] at h
      obtain ⟨l, s, h1, h2⟩ := bind_inv h
      obtain ⟨k1, z1, _⟩ := ih _ _ _ _ _ h1 trivial hl
      obtain ⟨k2, z2, _⟩ := ih _ _ _ _ _ h2 k1 (by simp only [acL] at hl ⊢; omega)
      exact ⟨k2, by omega, fun _ _ _ e => by cases e⟩
    | simpleL l =>
      rw [run] at h
      split at h
      · obtain ⟨y, s, h1, h2⟩ := bind_inv h
        obtain ⟨k1, z1, _⟩ := ih _ _ _ _ _ h1 trivial (by simp only [acL] at hl ⊢; omega)
        obtain ⟨k2, z2, _⟩ := ih _ _ _ _ _ h2 (Kb.two hB hn k1 _ _ _ _ _) (by simp only [acL] at hl ⊢; omega)
        exact ⟨k2, by omega, fun _ _ _ e => by cases e⟩
      · simp only [Rs.ok.injEq] at h
        obtain ⟨rfl, rfl⟩ := h
        exact ⟨hn, Nat.le_refl _, fun _ _ _ e => by cases e⟩
    | first =>
      rw [run] at h
      split at h
      · obtain ⟨x, s, h1, h2⟩ := bind_inv h
        obtain ⟨y, u, h3, h4⟩ := bind_inv h2
        have e1 := begin_len h1
        subst e1
        obtain ⟨k1, z1, _⟩ := ih _ _ _ _ _ h3 trivial (by simp only [acL] at hl ⊢; omega)
        simp only [Rs.ok.injEq] at h4
        obtain ⟨rfl, rfl⟩ := h4
        exact ⟨Kb.one hB k1 _ _ _ _ _, by omega, fun _ _ _ e => by cases e⟩
      · obtain ⟨k1, z1, _⟩ := ih _ _ _ _ _ h trivial hl
        exact ⟨k1, z1, fun _ _ _ e => by cases e⟩
    | term =>
      rw [run] at h
      obtain ⟨l, s, h1, h2⟩ := bind_inv h
      obtain ⟨k1, z1, _⟩ := ih _ _ _ _ _ h1 trivial hl
      obtain ⟨k2, z2, _⟩ := ih _ _ _ _ _ h2 k1 (by simp only [acL] at hl ⊢; omega)
      exact ⟨k2, by omega, fun _ _ _ e => by cases e⟩
    | termL l =>
      rw [run] at h
      split at h
      · obtain ⟨y, s, h1, h2⟩ := bind_inv h
        obtain ⟨k1, z1, _⟩ := ih _ _ _ _ _ h1 trivial (by simp only [acL] at hl ⊢; omega)
        obtain ⟨k2, z2, _⟩ := ih _ _ _ _ _ h2 (Kb.two hB hn k1 _ _ _ _ _) (by simp only [acL] at hl ⊢; omega)
        exact ⟨k2, by omega, fun _ _ _ e => by cases e⟩
      · simp only [Rs.ok.injEq] at h
        obtain ⟨rfl, rfl⟩ := h
        exact ⟨hn, Nat.le_refl _, fun _ _ _ e => by cases e⟩
    | factor =>
      rw [run] at h
      by_cases c1 : (hd t).k = 1
      · rw [if_pos c1] at h
        obtain ⟨k1, z1, _⟩ := ih _ _ _ _ _ h trivial hl
        exact ⟨k1, z1, fun _ _ _ e => by cases e⟩
      rw [if_neg c1] at h
      by_cases d0 : (hd t).k = 3
      · rw [if_pos d0] at h
        simp only [Rs.ok.injEq] at h
        obtain ⟨rfl, rfl⟩ := h
        exact ⟨Kb.zero _ _ _ _ _, by omega, fun _ _ _ e => by cases e⟩
      rw [if_neg d0] at h
      by_cases d1 : (hd t).k = 4
      · rw [if_pos d1] at h
        simp only [Rs.ok.injEq] at h
        obtain ⟨rfl, rfl⟩ := h
        exact ⟨Kb.zero _ _ _ _ _, by omega, fun _ _ _ e => by cases e⟩
      rw [if_neg d1] at h
      by_cases d2 : (hd t).k = 5
      · rw [if_pos d2] at h
        simp only [Rs.ok.injEq] at h
        obtain ⟨rfl, rfl⟩ := h
        exact ⟨Kb.zero _ _ _ _ _, by omega, fun _ _ _ e => by cases e⟩
      rw [if_neg d2] at h
      by_cases d3 : wd t = [78, 73, 76]
      · rw [if_pos d3] at h
        simp only [Rs.ok.injEq] at h
        obtain ⟨rfl, rfl⟩ := h
        exact ⟨Kb.zero _ _ _ _ _, by omega, fun _ _ _ e => by cases e⟩
      rw [if_neg d3] at h
      by_cases d4 : wd t = [84, 82, 85, 69]
      · rw [if_pos d4] at h
        simp only [Rs.ok.injEq] at h
        obtain ⟨rfl, rfl⟩ := h
        exact ⟨Kb.zero _ _ _ _ _, by omega, fun _ _ _ e => by cases e⟩
      rw [if_neg d4] at h
      by_cases d5 : wd t = [70, 65, 76, 83, 69]
      · rw [if_pos d5] at h
        simp only [Rs.ok.injEq] at h
        obtain ⟨rfl, rfl⟩ := h
        exact ⟨Kb.zero _ _ _ _ _, by omega, fun _ _ _ e => by cases e⟩
      rw [if_neg d5] at h
      by_cases e0 : wd t = [126]
      · rw [if_pos e0] at h
        obtain ⟨x, s, h1, h2⟩ := bind_inv h
        obtain ⟨y, u, h3, h4⟩ := bind_inv h2
        have e1 := begin_len h1
        subst e1
        obtain ⟨k1, z1, _⟩ := ih _ _ _ _ _ h3 trivial (by simp only [acL] at hl ⊢; omega)
        simp only [Rs.ok.injEq] at h4
        obtain ⟨rfl, rfl⟩ := h4
        exact ⟨Kb.one hB k1 _ _ _ _ _, by omega, fun _ _ _ e => by cases e⟩
      rw [if_neg e0] at h
      by_cases e9 : wd t = [123]
      · rw [if_pos e9] at h
        obtain ⟨x, s, h1, h2⟩ := bind_inv h
        obtain ⟨y, u, h3, h4⟩ := bind_inv h2
        obtain ⟨z, v, h5, h6⟩ := bind_inv h4
        have e1 := begin_len h1
        have e2 := must_len h5
        subst e1
        subst e2
        have ut := List.length_tail (l := u)
        simp only [Rs.ok.injEq] at h6
        obtain ⟨rfl, rfl⟩ := h6
        split at h3
        · simp only [Rs.ok.injEq] at h3
          obtain ⟨rfl, rfl⟩ := h3
          exact ⟨Kb.zero _ _ _ _ _, by omega, fun _ _ _ e => by cases e⟩
        · obtain ⟨k1, z1, q1⟩ := ih _ _ _ _ _ h3 ⟨by decide, by simp, trivial, .inr rfl⟩ (by simp only [acL, List.length_nil] at hl ⊢; omega)
          exact ⟨.mk _ _ _ _ _ _ k1.len k1.all, by omega, fun _ _ _ e => by cases e⟩
      rw [if_neg e9] at h
      by_cases e8 : wd t = [40]
      · rw [if_pos e8] at h
        obtain ⟨x, s, h1, h2⟩ := bind_inv h
        obtain ⟨y, u, h3, h4⟩ := bind_inv h2
        obtain ⟨z, v, h5, h6⟩ := bind_inv h4
        have e1 := begin_len h1
        have e2 := must_len h5
        subst e1
        subst e2
        have ut := List.length_tail (l := u)
        simp only [Rs.ok.injEq] at h6
        obtain ⟨rfl, rfl⟩ := h6
        obtain ⟨k1, z1, _⟩ := ih _ _ _ _ _ h3 trivial (by simp only [acL] at hl ⊢; omega)
        exact ⟨k1, by omega, fun _ _ _ e => by cases e⟩
      rw [if_neg e8] at h
      cases h
    | elem =>
      rw [run] at h
      obtain ⟨l, s, h1, h2⟩ := bind_inv h
      obtain ⟨k1, z1, _⟩ := ih _ _ _ _ _ h1 trivial hl
      have zt := List.length_tail (l := s)
      split at h2
      · obtain ⟨y, u, h3, h4⟩ := bind_inv h2
        obtain ⟨k2, z2, _⟩ := ih _ _ _ _ _ h3 trivial (by simp only [acL] at hl ⊢; omega)
        simp only [Rs.ok.injEq] at h4
        obtain ⟨rfl, rfl⟩ := h4
        exact ⟨Kb.two hB k1 k2 _ _ _ _ _, by omega, fun _ _ _ e => by cases e⟩
      · simp only [Rs.ok.injEq] at h2
        obtain ⟨rfl, rfl⟩ := h2
        exact ⟨k1, z1, fun _ _ _ e => by cases e⟩
    | desig =>
      rw [run] at h
      obtain ⟨x, s, h1, h2⟩ := bind_inv h
      have e1 := name_len h1
      subst e1
      obtain ⟨k1, z1, _⟩ := ih _ _ _ _ _ h2 (Kb.zero _ _ _ _ _) (by simp only [acL] at hl ⊢; omega)
      exact ⟨k1, by omega, fun _ _ _ e => by cases e⟩
    | desigL l =>
      rw [run] at h
      split at h
      · obtain ⟨x, s, h1, h2⟩ := bind_inv h
        have e1 := name_len h1
        subst e1
        have tt := List.length_tail (l := t.tail)
        obtain ⟨k1, z1, _⟩ := ih _ _ _ _ _ h2 (Kb.one hB hn _ _ _ _ _) (by simp only [acL] at hl ⊢; omega)
        exact ⟨k1, by omega, fun _ _ _ e => by cases e⟩
      split at h
      · obtain ⟨x, s, h1, h2⟩ := bind_inv h
        obtain ⟨y, u, h3, h4⟩ := bind_inv h2
        obtain ⟨z, v, h5, h6⟩ := bind_inv h4
        have e1 := begin_len h1
        have e2 := must_len h5
        subst e1
        subst e2
        have ut := List.length_tail (l := u)
        obtain ⟨k1, z1, _⟩ := ih _ _ _ _ _ h3 ⟨by decide, by simp, trivial, .inl rfl⟩ (by simp only [acL, List.length_nil] at hl ⊢; omega)
        obtain ⟨k2, z2, _⟩ := ih _ _ _ _ _ h6 (Kb.idx hB _ _ _ hn k1.all) (by simp only [acL] at hl ⊢; omega)
        exact ⟨k2, by omega, fun _ _ _ e => by cases e⟩
      split at h
      · obtain ⟨k1, z1, _⟩ := ih _ _ _ _ _ h (Kb.one hB hn _ _ _ _ _) (by simp only [acL] at hl ⊢; omega)
        exact ⟨k1, by omega, fun _ _ _ e => by cases e⟩
      split at h
      · rename_i hw
        have t1 := wd_len (t := t) (by rw [hw]; decide)
        obtain ⟨x, s, h1, h2⟩ := bind_inv h
        obtain ⟨y, u, h3, h4⟩ := bind_inv h2
        obtain ⟨z, v, h5, h6⟩ := bind_inv h4
        have e1 := begin_len h1
        have e2 := must_len h5
        subst e1
        subst e2
        have ut := List.length_tail (l := u)
        split at h3
        · simp only [Rs.ok.injEq] at h3
          obtain ⟨rfl, rfl⟩ := h3
          obtain ⟨k2, z2, _⟩ := ih _ _ _ _ _ h6 (Kb.one hB hn _ _ _ _ _) (by simp only [acL] at hl ⊢; omega)
          exact ⟨k2, by omega, fun _ _ _ e => by cases e⟩
        · obtain ⟨k1, z1, q1⟩ := ih _ _ _ _ _ h3 ⟨by decide, by simp, trivial, .inl rfl⟩ (by simp only [acL, List.length_nil] at hl ⊢; omega)
          have q2 := q1 _ _ _ rfl
          simp only [List.length_nil] at q2
          obtain ⟨k2, z2, _⟩ := ih _ _ _ _ _ h6 (.mk _ _ _ _ _ _ (by simp only [acL, List.length_cons] at hl ⊢; omega) (by
            intro a ha
            rcases List.mem_cons.1 ha with rfl | ha
            · exact hn
            · exact k1.all a ha)) (by simp only [acL] at hl ⊢; omega)
          exact ⟨k2, by omega, fun _ _ _ e => by cases e⟩
      · simp only [Rs.ok.injEq] at h
        obtain ⟨rfl, rfl⟩ := h
        exact ⟨hn, Nat.le_refl _, fun _ _ _ e => by cases e⟩
    | row s p acc =>
      rw [run] at h
      obtain ⟨x, u, h1, h2⟩ := bind_inv h
      obtain ⟨hs, ha, hp, hpe⟩ := hn
      have hap : acL p = 0 := by rcases hpe with rfl | rfl <;> rfl
      obtain ⟨k1, z1, _⟩ := ih _ _ _ _ _ h1 hp (by simp only [acL] at hl; omega)
      have ut := List.length_tail (l := u)
      have ha' : ∀ y ∈ acc ++ [x], Kb B y := fun y hy => by
        rcases List.mem_append.1 hy with hy | hy
        · exact ha y hy
        · simp at hy; rw [hy]; exact k1
      split at h2
      · rename_i hw
        have u1 := wd_len (t := u) (by rw [hw]; exact hs)
        obtain ⟨k2, z2, q2⟩ := ih _ _ _ _ _ h2 ⟨hs, ha', hp, hpe⟩ (by simp only [acL, List.length_append, List.length_cons, List.length_nil] at hl ⊢; omega)
        have q3 := q2 _ _ _ rfl
        simp only [List.length_append, List.length_cons, List.length_nil] at q3
        exact ⟨k2, by omega, fun _ _ _ e => by cases e; omega⟩
      · simp only [Rs.ok.injEq] at h2
        obtain ⟨rfl, rfl⟩ := h2
        refine ⟨.mk _ _ _ _ _ _ (by simp only [acL, List.length_append, List.length_cons, List.length_nil] at hl ⊢; omega) ha', z1, fun _ _ _ e => ?_⟩
        cases e
        simp only [lst, Nd.kids, List.length_append, List.length_cons, List.length_nil]; omega
end Go.Proofs.YtejcjhoojpoamaaDoor

namespace Go.Proofs.YtejcjhoojpoamaaDoor
set_option linter.unusedVariables false
set_option linter.unusedSimpArgs false
open Go.ChangeShapes Go.WideShapes Go.ChangeAt Go.RowKit
attribute [local go_sem ↓] loadTk_seal storeTk_seal loadKeys_seal loadSigns_seal
attribute [local go_sem] loadTk_run storeTk_run rowAt_at rowAt_old rowAt_drew rowAt_drewN roomTk_new roomAt_old roomAt_drew roomAt_drewN putTk_new Tk.fold putRow_past rowTk_put size_put putRow_drew putRow_drewN alloc_drewN setCell_drewN Tk.at0 Tk.at1 Tk.at2 Tk.at3 Tk.size Tk.set0 Tk.set1 Tk.set2 Tk.set3 Tk.ne rowAt_set rowAt_far roomAt_far
attribute [local go_sem ↓] loadNd_seal storeNd_seal
attribute [local go_sem] loadNd_run storeNd_run roomNd_new putNd_new Nc.fold rowNd_put Nc.at0 Nc.at1 Nc.at2 Nc.at3 Nc.at4 Nc.at5 Nc.size Nc.set0 Nc.set1 Nc.set2 Nc.set3 Nc.set4 Nc.set5 Nc.ne

theorem kids_at {w : World} {P : Nat → Prop} : ∀ {l : List Nd} {a : Option Addr} {j : Nat}, KidsAt w P a j l → ∀ i (h : i < l.length), ∃ b c, a = some ⟨b, 0, none⟩ ∧ b < w.heap.size ∧ (∀ q, q < 6 → w.cell? ⟨b, (j + i) * 6 + q, none⟩ = (Nc.cells c)[q]?) ∧ NdAt w P c l[i] := by
  intro l
  induction l with
  | nil => intro a j h i hi; simp at hi
  | cons x r ih =>
    intro a j h i hi
    cases h with
    | cons b j c x r hP hb hc hx hr =>
      cases i with
      | zero => exact ⟨b, c, rfl, hb, by simpa using hc, hx⟩
      | succ i =>
        obtain ⟨b', c', e, h1, h2, h3⟩ := ih hr i (by simpa using hi)
        injection e with e
        injection e with e
        subst e
        exact ⟨b, c', rfl, h1, by rw [show j + (i + 1) = j + 1 + i by omega]; exact h2, h3⟩
def LdN (w : World) (b i : Nat) (c : Nc) : Prop := ∀ X, Below w.heap.size w X → (loadNd ⟨b, i * 6, none⟩).run Tryd.prog X = .ok (.agg c.cells) X
set_option maxHeartbeats 8000000 in
set_option maxRecDepth 20000 in
theorem same_nd {B : Nat} (hB : B ≤ 1000000) {n : Nd} (h : Kb B n) : ∀ (w : World) (P Q : Nat → Prop) (c d : Nc) (pl : Bool), NdAt w P c n → NdAt w Q d n → Calls Tryd.prog 11 #[.agg c.cells, .agg d.cells, .bool pl] w fun e w' => e = .returned (.bool true) ∧ Below w.heap.size w w' := by
  induction h with
  | mk k t n f kids p hl hk ih =>
    intro w P Q c d pl hc hd
    cases hc with
    | mk k t n f kids p a m hka =>
      cases hd with
      | mk k t n f kids p a' m' hkb =>
        have KA : Hid (∀ i (h : i < kids.length), ∃ b c, a = some ⟨b, 0, none⟩ ∧ b < w.heap.size ∧ (∀ q, q < 6 → w.cell? ⟨b, (0 + i) * 6 + q, none⟩ = (Nc.cells c)[q]?) ∧ NdAt w P c kids[i]) := fun i h => kids_at hka i h
        have KB : Hid (∀ i (h : i < kids.length), ∃ b c, a' = some ⟨b, 0, none⟩ ∧ b < w.heap.size ∧ (∀ q, q < 6 → w.cell? ⟨b, (0 + i) * 6 + q, none⟩ = (Nc.cells c)[q]?) ∧ NdAt w Q c kids[i]) := fun i h => kids_at hkb i h
        have IH : Hid (∀ x ∈ kids, ∀ (w : World) (P Q : Nat → Prop) (c d : Nc) (pl : Bool), NdAt w P c x → NdAt w Q d x → Calls Tryd.prog 11 #[.agg c.cells, .agg d.cells, .bool pl] w fun e w' => e = .returned (.bool true) ∧ Below w.heap.size w w') := ih
        clear hka hkb ih hk
        have e1 : (k != k) = false := by simp
        have e2 : ((bs t).toList == (bs t).toList) = true := by simp
        have e3 : (n != n) = false := by simp
        have e4 : (f != f) = false := by simp
        have e5 : ((p : Int) != (p : Int)) = false := by simp
        have e6 : ((kids.length : Int) != (kids.length : Int)) = false := by simp
        obtain ⟨len, hlen⟩ : ∃ len, len = kids.length := ⟨_, rfl⟩
        have HL : Hid (len = kids.length) := hlen
        rw [← hlen] at hl e6 ⊢
        clear hlen
        cases pl
        · skip
          go_enter Tryd.func11, Tryd.ntmps11
          go_wp2
          obtain ⟨W2, hW2⟩ : ∃ W2, W2 = ((w.alloc (.cells (⟨k, bs t, n, f, a, len, m, (p : Int)⟩ : Nc).cells 25)).alloc (.cells (⟨k, bs t, n, f, a', len, m', (p : Int)⟩ : Nc).cells 25)) := ⟨_, rfl⟩
          have b2 : Below w.heap.size w W2 := by rw [hW2]; go_grown
          have s2 : W2.heap.size = w.heap.size + 1 + 1 := by rw [hW2]; simp
          have ra : rowAt W2 w.heap.size = some (⟨k, bs t, n, f, a, len, m, (p : Int)⟩ : Nc).cells := by rw [hW2]; exact (rowAt_old _ _ _ (by simp)).trans (rowAt_at _ _ _ _ _ rfl)
          have rb : rowAt W2 (w.heap.size + 1) = some (⟨k, bs t, n, f, a', len, m', (p : Int)⟩ : Nc).cells := by rw [hW2]; exact rowAt_at _ _ _ _ _ (by simp)
          rw [← hW2]
          clear hW2
          go_loopg [7, 8] len (fun gf s7 s8 X => ∃ i : Nat, s7 = .int .i64 (i : Int) ∧ i + gf = len ∧ Below W2.heap.size W2 X)
          case atStart => exact ⟨0, rfl, by omega, Below.refl _ _⟩
          case round =>
            obtain ⟨i, rfl, hi, hbx⟩ := hrel
            have ca := rowAt_cell ((rowAt_below hbx w.heap.size (by omega)).trans ra)
            have cb := rowAt_cell ((rowAt_below hbx (w.heap.size + 1) (by omega)).trans rb)
            have hsx := hbx.size
            have lx : w.heap.size < wr.heap.size := by omega
            have lx1 : w.heap.size + 1 < wr.heap.size := by omega
            by_cases hlt : i < len
            · obtain ⟨g', rfl⟩ : ∃ g', gk = g' + 1 := ⟨gk - 1, by omega⟩
              have d0 : decide ((i : Int) < (len : Int)) = true := by simp; omega
              have hb1 : (0 : Int) ≤ (i : Int) := by omega
              have hb2 : (i : Int) < (len : Int) := by omega
              have hik : i < kids.length := by have := HL.out; omega
              obtain ⟨ba, c1, rfl, hla, hca, hna⟩ := KA.out i hik
              obtain ⟨bb, c2, rfl, hlb, hcb, hnb⟩ := KB.out i hik
              have bw : Below w.heap.size w wr := b2.trans (hbx.mono (by omega))
              have bwd : Below w.heap.size w wr.drew := bw.drew
              have LA : LdN wr ba i c1 := fun X hX => loadNd_mid _ (fun q hq => (((bw.trans (hX.mono (by omega))).cell (p := ⟨ba, i * 6 + q, none⟩) hla).trans (by have := hca q hq; rwa [Nat.zero_add] at this)))
              have LB : LdN wr bb i c2 := fun X hX => loadNd_mid _ (fun q hq => (((bw.trans (hX.mono (by omega))).cell (p := ⟨bb, i * 6 + q, none⟩) hlb).trans (by have := hcb q hq; rwa [Nat.zero_add] at this)))
              have CC : Hid (∀ pl, Calls Tryd.prog 11 #[.agg c1.cells, .agg c2.cells, .bool pl] wr.drew fun e w' => e = .returned (.bool true) ∧ Below wr.drew.heap.size wr.drew w') := fun pl => IH.out _ (List.getElem_mem hik) wr.drew P Q c1 c2 pl (hna.keep (fun _ hx _ => hx) bwd.size (fun x _ hl => bwd.block x hl)) (hnb.keep (fun _ hx _ => hx) bwd.size (fun x _ hl => bwd.block x hl))
              clear hca hcb hna hnb IH KA KB ra rb
              go_upto_region 6 with fail
              refine wp_region_held_drew (S := (fun X => Below wr.heap.size wr X)) (by kernel_rfl) (Below.refl _ _).drew (fun hHeld => ?_)
              refine wpAnyH_take (i := 0) (v := ?_) rfl (by kernel_rfl) (by kernel_rfl) (by kernel_rfl) (fun _ _ _ h => h) (Or.inl ⟨by rfl, ?y0f⟩) hHeld ?r0f
              case y0f => (intro w2 hSw; go_simp; try rfl)
              simp only [Act.put, List.setIfInBounds_toArray, List.set_cons_zero, List.set_cons_succ]
              refine wpAnyH_take (i := 1) (v := ?_) rfl (by kernel_rfl) (by kernel_rfl) (by kernel_rfl) (fun _ _ _ h => h) (Or.inl ⟨by rfl, ?y1f⟩) hHeld ?r1f
              case y1f => (intro w2 hSw; have qa : ∀ j, w2.cell? ⟨w.heap.size, j, none⟩ = _ := fun j => (hSw.cell (p := ⟨w.heap.size, j, none⟩) lx).trans (ca j); go_simp; try rfl)
              simp only [Act.put, List.setIfInBounds_toArray, List.set_cons_zero, List.set_cons_succ]
              refine wpAnyH_take (i := 2) (v := ?_) rfl (by kernel_rfl) (by kernel_rfl) (by kernel_rfl) (fun _ _ _ h => h) (Or.inl ⟨by rfl, ?y2f⟩) hHeld ?r2f
              case y2f => (intro w2 hSw; go_simp; try rfl)
              simp only [Act.put, List.setIfInBounds_toArray, List.set_cons_zero, List.set_cons_succ]
              refine wpAnyH_take (i := 3) (v := ?_) rfl (by kernel_rfl) (by kernel_rfl) (by kernel_rfl) (fun _ _ _ h => h) (Or.inl ⟨by rfl, ?y3f⟩) hHeld ?r3f
              case y3f => (intro w2 hSw; go_simp; try rfl)
              simp only [Act.put, List.setIfInBounds_toArray, List.set_cons_zero, List.set_cons_succ]
              refine wpAnyH_take (i := 4) (v := ?_) rfl (by kernel_rfl) (by kernel_rfl) (by kernel_rfl) (fun _ _ _ h => h) (Or.inl ⟨by rfl, ?y4f⟩) hHeld ?r4f
              case y4f => (intro w2 hSw; have q := LA w2 hSw; go_simp; try rfl)
              simp only [Act.put, List.setIfInBounds_toArray, List.set_cons_zero, List.set_cons_succ]
              refine wpAnyH_take (i := 5) (v := ?_) rfl (by kernel_rfl) (by kernel_rfl) (by kernel_rfl) (fun _ _ _ h => h) (Or.inl ⟨by rfl, ?y5f⟩) hHeld ?r5f
              case y5f => (intro w2 hSw; go_simp; try rfl)
              simp only [Act.put, List.setIfInBounds_toArray, List.set_cons_zero, List.set_cons_succ]
              refine wpAnyH_take (i := 6) (v := ?_) rfl (by kernel_rfl) (by kernel_rfl) (by kernel_rfl) (fun _ _ _ h => h) (Or.inl ⟨by rfl, ?y6f⟩) hHeld ?r6f
              case y6f => (intro w2 hSw; have qb : ∀ j, w2.cell? ⟨w.heap.size + 1, j, none⟩ = _ := fun j => (hSw.cell (p := ⟨w.heap.size + 1, j, none⟩) lx1).trans (cb j); go_simp; try rfl)
              simp only [Act.put, List.setIfInBounds_toArray, List.set_cons_zero, List.set_cons_succ]
              refine wpAnyH_take (i := 7) (v := ?_) rfl (by kernel_rfl) (by kernel_rfl) (by kernel_rfl) (fun _ _ _ h => h) (Or.inl ⟨by rfl, ?y7f⟩) hHeld ?r7f
              case y7f => (intro w2 hSw; go_simp; try rfl)
              simp only [Act.put, List.setIfInBounds_toArray, List.set_cons_zero, List.set_cons_succ]
              refine wpAnyH_take (i := 8) (v := ?_) rfl (by kernel_rfl) (by kernel_rfl) (by kernel_rfl) (fun _ _ _ h => h) (Or.inl ⟨by rfl, ?y8f⟩) hHeld ?r8f
              case y8f => (intro w2 hSw; go_simp; try rfl)
              simp only [Act.put, List.setIfInBounds_toArray, List.set_cons_zero, List.set_cons_succ]
              refine wpAnyH_take (i := 9) (v := ?_) rfl (by kernel_rfl) (by kernel_rfl) (by kernel_rfl) (fun _ _ _ h => h) (Or.inl ⟨by rfl, ?y9f⟩) hHeld ?r9f
              case y9f => (intro w2 hSw; have q := LB w2 hSw; go_simp; try rfl)
              simp only [Act.put, List.setIfInBounds_toArray, List.set_cons_zero, List.set_cons_succ]
              refine wpAnyH_take (i := 10) (v := ?_) rfl (by kernel_rfl) (by kernel_rfl) (by kernel_rfl) (fun _ _ _ h => h) (Or.inl ⟨by rfl, ?y10f⟩) hHeld ?r10f
              case y10f => (intro w2 hSw; go_simp; try rfl)
              simp only [Act.put, List.setIfInBounds_toArray, List.set_cons_zero, List.set_cons_succ]
              refine wpAnyH_ready (rs := [11]) (by kernel_rfl) (by simp) ?_
              refine AllReadyH.cons rfl (fun K hK => ?_) AllReadyH.nil
              go_simp
              go_wp2_with (go_at_call 11; refine (CC.out _).mono ?_; rintro e w5 ⟨rfl, hb5⟩)
              have b5 : Below wr.heap.size wr w5 := ((Below.refl _ _).drew).trans hb5
              refine hK.out _ _ b5 (fun _ => ?_)
              clear hK K
              refine wpAnyH_ready (rs := [12]) (by kernel_rfl) (by simp) ?_
              refine AllReadyH.cons rfl (fun K hK => ?_) AllReadyH.nil
              go_simp
              refine hK.out _ _ b5 (fun _ => ?_)
              clear hK K
              refine wpAnyH_done (by kernel_rfl) ?_ _
              have b6 : Below W2.heap.size W2 w5 := hbx.trans (b5.mono hsx)
              go_wp2_with fail
              go_roundg g'
              case measure => omega
              case rel => exact ⟨i + 1, by simp, by omega, b6⟩
            · have d0 : decide ((i : Int) < (len : Int)) = false := by simp; omega
              clear IH KA KB ra rb
              go_wp2
              go_ret
              exact ⟨rfl, b2.trans (hbx.mono (by omega))⟩
        · skip
          go_enter Tryd.func11, Tryd.ntmps11
          go_wp2
          obtain ⟨W2, hW2⟩ : ∃ W2, W2 = ((w.alloc (.cells (⟨k, bs t, n, f, a, len, m, (p : Int)⟩ : Nc).cells 25)).alloc (.cells (⟨k, bs t, n, f, a', len, m', (p : Int)⟩ : Nc).cells 25)) := ⟨_, rfl⟩
          have b2 : Below w.heap.size w W2 := by rw [hW2]; go_grown
          have s2 : W2.heap.size = w.heap.size + 1 + 1 := by rw [hW2]; simp
          have ra : rowAt W2 w.heap.size = some (⟨k, bs t, n, f, a, len, m, (p : Int)⟩ : Nc).cells := by rw [hW2]; exact (rowAt_old _ _ _ (by simp)).trans (rowAt_at _ _ _ _ _ rfl)
          have rb : rowAt W2 (w.heap.size + 1) = some (⟨k, bs t, n, f, a', len, m', (p : Int)⟩ : Nc).cells := by rw [hW2]; exact rowAt_at _ _ _ _ _ (by simp)
          rw [← hW2]
          clear hW2
          go_loopg [7, 8] len (fun gf s7 s8 X => ∃ i : Nat, s7 = .int .i64 (i : Int) ∧ i + gf = len ∧ Below W2.heap.size W2 X)
          case atStart => exact ⟨0, rfl, by omega, Below.refl _ _⟩
          case round =>
            obtain ⟨i, rfl, hi, hbx⟩ := hrel
            have ca := rowAt_cell ((rowAt_below hbx w.heap.size (by omega)).trans ra)
            have cb := rowAt_cell ((rowAt_below hbx (w.heap.size + 1) (by omega)).trans rb)
            have hsx := hbx.size
            have lx : w.heap.size < wr.heap.size := by omega
            have lx1 : w.heap.size + 1 < wr.heap.size := by omega
            by_cases hlt : i < len
            · obtain ⟨g', rfl⟩ : ∃ g', gk = g' + 1 := ⟨gk - 1, by omega⟩
              have d0 : decide ((i : Int) < (len : Int)) = true := by simp; omega
              have hb1 : (0 : Int) ≤ (i : Int) := by omega
              have hb2 : (i : Int) < (len : Int) := by omega
              have hik : i < kids.length := by have := HL.out; omega
              obtain ⟨ba, c1, rfl, hla, hca, hna⟩ := KA.out i hik
              obtain ⟨bb, c2, rfl, hlb, hcb, hnb⟩ := KB.out i hik
              have bw : Below w.heap.size w wr := b2.trans (hbx.mono (by omega))
              have bwd : Below w.heap.size w wr.drew := bw.drew
              have LA : LdN wr ba i c1 := fun X hX => loadNd_mid _ (fun q hq => (((bw.trans (hX.mono (by omega))).cell (p := ⟨ba, i * 6 + q, none⟩) hla).trans (by have := hca q hq; rwa [Nat.zero_add] at this)))
              have LB : LdN wr bb i c2 := fun X hX => loadNd_mid _ (fun q hq => (((bw.trans (hX.mono (by omega))).cell (p := ⟨bb, i * 6 + q, none⟩) hlb).trans (by have := hcb q hq; rwa [Nat.zero_add] at this)))
              have CC : Hid (∀ pl, Calls Tryd.prog 11 #[.agg c1.cells, .agg c2.cells, .bool pl] wr.drew fun e w' => e = .returned (.bool true) ∧ Below wr.drew.heap.size wr.drew w') := fun pl => IH.out _ (List.getElem_mem hik) wr.drew P Q c1 c2 pl (hna.keep (fun _ hx _ => hx) bwd.size (fun x _ hl => bwd.block x hl)) (hnb.keep (fun _ hx _ => hx) bwd.size (fun x _ hl => bwd.block x hl))
              clear hca hcb hna hnb IH KA KB ra rb
              go_upto_region 6 with fail
              refine wp_region_held_drew (S := (fun X => Below wr.heap.size wr X)) (by kernel_rfl) (Below.refl _ _).drew (fun hHeld => ?_)
              refine wpAnyH_take (i := 0) (v := ?_) rfl (by kernel_rfl) (by kernel_rfl) (by kernel_rfl) (fun _ _ _ h => h) (Or.inl ⟨by rfl, ?y0t⟩) hHeld ?r0t
              case y0t => (intro w2 hSw; go_simp; try rfl)
              simp only [Act.put, List.setIfInBounds_toArray, List.set_cons_zero, List.set_cons_succ]
              refine wpAnyH_take (i := 1) (v := ?_) rfl (by kernel_rfl) (by kernel_rfl) (by kernel_rfl) (fun _ _ _ h => h) (Or.inl ⟨by rfl, ?y1t⟩) hHeld ?r1t
              case y1t => (intro w2 hSw; have qa : ∀ j, w2.cell? ⟨w.heap.size, j, none⟩ = _ := fun j => (hSw.cell (p := ⟨w.heap.size, j, none⟩) lx).trans (ca j); go_simp; try rfl)
              simp only [Act.put, List.setIfInBounds_toArray, List.set_cons_zero, List.set_cons_succ]
              refine wpAnyH_take (i := 2) (v := ?_) rfl (by kernel_rfl) (by kernel_rfl) (by kernel_rfl) (fun _ _ _ h => h) (Or.inl ⟨by rfl, ?y2t⟩) hHeld ?r2t
              case y2t => (intro w2 hSw; go_simp; try rfl)
              simp only [Act.put, List.setIfInBounds_toArray, List.set_cons_zero, List.set_cons_succ]
              refine wpAnyH_take (i := 3) (v := ?_) rfl (by kernel_rfl) (by kernel_rfl) (by kernel_rfl) (fun _ _ _ h => h) (Or.inl ⟨by rfl, ?y3t⟩) hHeld ?r3t
              case y3t => (intro w2 hSw; go_simp; try rfl)
              simp only [Act.put, List.setIfInBounds_toArray, List.set_cons_zero, List.set_cons_succ]
              refine wpAnyH_take (i := 4) (v := ?_) rfl (by kernel_rfl) (by kernel_rfl) (by kernel_rfl) (fun _ _ _ h => h) (Or.inl ⟨by rfl, ?y4t⟩) hHeld ?r4t
              case y4t => (intro w2 hSw; have q := LA w2 hSw; go_simp; try rfl)
              simp only [Act.put, List.setIfInBounds_toArray, List.set_cons_zero, List.set_cons_succ]
              refine wpAnyH_take (i := 5) (v := ?_) rfl (by kernel_rfl) (by kernel_rfl) (by kernel_rfl) (fun _ _ _ h => h) (Or.inl ⟨by rfl, ?y5t⟩) hHeld ?r5t
              case y5t => (intro w2 hSw; go_simp; try rfl)
              simp only [Act.put, List.setIfInBounds_toArray, List.set_cons_zero, List.set_cons_succ]
              refine wpAnyH_take (i := 6) (v := ?_) rfl (by kernel_rfl) (by kernel_rfl) (by kernel_rfl) (fun _ _ _ h => h) (Or.inl ⟨by rfl, ?y6t⟩) hHeld ?r6t
              case y6t => (intro w2 hSw; have qb : ∀ j, w2.cell? ⟨w.heap.size + 1, j, none⟩ = _ := fun j => (hSw.cell (p := ⟨w.heap.size + 1, j, none⟩) lx1).trans (cb j); go_simp; try rfl)
              simp only [Act.put, List.setIfInBounds_toArray, List.set_cons_zero, List.set_cons_succ]
              refine wpAnyH_take (i := 7) (v := ?_) rfl (by kernel_rfl) (by kernel_rfl) (by kernel_rfl) (fun _ _ _ h => h) (Or.inl ⟨by rfl, ?y7t⟩) hHeld ?r7t
              case y7t => (intro w2 hSw; go_simp; try rfl)
              simp only [Act.put, List.setIfInBounds_toArray, List.set_cons_zero, List.set_cons_succ]
              refine wpAnyH_take (i := 8) (v := ?_) rfl (by kernel_rfl) (by kernel_rfl) (by kernel_rfl) (fun _ _ _ h => h) (Or.inl ⟨by rfl, ?y8t⟩) hHeld ?r8t
              case y8t => (intro w2 hSw; go_simp; try rfl)
              simp only [Act.put, List.setIfInBounds_toArray, List.set_cons_zero, List.set_cons_succ]
              refine wpAnyH_take (i := 9) (v := ?_) rfl (by kernel_rfl) (by kernel_rfl) (by kernel_rfl) (fun _ _ _ h => h) (Or.inl ⟨by rfl, ?y9t⟩) hHeld ?r9t
              case y9t => (intro w2 hSw; have q := LB w2 hSw; go_simp; try rfl)
              simp only [Act.put, List.setIfInBounds_toArray, List.set_cons_zero, List.set_cons_succ]
              refine wpAnyH_take (i := 10) (v := ?_) rfl (by kernel_rfl) (by kernel_rfl) (by kernel_rfl) (fun _ _ _ h => h) (Or.inl ⟨by rfl, ?y10t⟩) hHeld ?r10t
              case y10t => (intro w2 hSw; go_simp; try rfl)
              simp only [Act.put, List.setIfInBounds_toArray, List.set_cons_zero, List.set_cons_succ]
              refine wpAnyH_ready (rs := [11]) (by kernel_rfl) (by simp) ?_
              refine AllReadyH.cons rfl (fun K hK => ?_) AllReadyH.nil
              go_simp
              go_wp2_with (go_at_call 11; refine (CC.out _).mono ?_; rintro e w5 ⟨rfl, hb5⟩)
              have b5 : Below wr.heap.size wr w5 := ((Below.refl _ _).drew).trans hb5
              refine hK.out _ _ b5 (fun _ => ?_)
              clear hK K
              refine wpAnyH_ready (rs := [12]) (by kernel_rfl) (by simp) ?_
              refine AllReadyH.cons rfl (fun K hK => ?_) AllReadyH.nil
              go_simp
              refine hK.out _ _ b5 (fun _ => ?_)
              clear hK K
              refine wpAnyH_done (by kernel_rfl) ?_ _
              have b6 : Below W2.heap.size W2 w5 := hbx.trans (b5.mono hsx)
              go_wp2_with fail
              go_roundg g'
              case measure => omega
              case rel => exact ⟨i + 1, by simp, by omega, b6⟩
            · have d0 : decide ((i : Int) < (len : Int)) = false := by simp; omega
              clear IH KA KB ra rb
              go_wp2
              go_ret
              exact ⟨rfl, b2.trans (hbx.mono (by omega))⟩
end Go.Proofs.YtejcjhoojpoamaaDoor
