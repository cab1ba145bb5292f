/-
  Layer 7: whether a type is described: the search among descriptors.
-/
import Derived.Test.YtepgifapepaheaaRpc
namespace Go.Proofs.Ytepgifapepaheaa
set_option linter.unusedVariables false
set_option linter.unusedSimpArgs false
open Go.ChangeShapes Go.WideShapes Go.ChangeAt Go.RowKit

theorem nan_any (a : Int) (w : World) : Calls Try.prog 96 #[.int .i64 a] w fun e w' => e = .returned (.bool false) ∧ w' = w := by
  go_enter Try.func96, Try.ntmps96
  go_wp2
  go_ret
  exact ⟨ret_bool (by simp), rfl⟩
def cmpI (a b : Int) : Int := if a < b then -1 else if b < a then 1 else 0
theorem cmp_any (a b : Int) (w : World) : Calls Try.prog 92 #[.int .i64 a, .int .i64 b] w fun e w' => e = .returned (.int .i64 (cmpI a b)) ∧ w' = w := by
  have N : Hid (∀ x X, Calls Try.prog 96 #[.int .i64 x] X fun e w' => e = .returned (.bool false) ∧ w' = X) := fun x X => nan_any x X
  unfold cmpI
  by_cases h1 : a < b
  · have d1 : decide (a < b) = true := decide_eq_true h1
    rw [if_pos h1]
    go_enter Try.func92, Try.ntmps92
    go_wp2_with (go_at_call 96; refine (N.out _ _).mono ?_; rintro e w1 ⟨rfl, hw⟩; rw [hw]; clear hw)
    go_ret
    exact ⟨rfl, rfl⟩
  · have d1 : decide (a < b) = false := decide_eq_false h1
    rw [if_neg h1]
    by_cases h2 : b < a
    · have d2 : decide (b < a) = true := decide_eq_true h2
      rw [if_pos h2]
      go_enter Try.func92, Try.ntmps92
      go_wp2_with (go_at_call 96; refine (N.out _ _).mono ?_; rintro e w1 ⟨rfl, hw⟩; rw [hw]; clear hw)
      go_ret
      exact ⟨rfl, rfl⟩
    · have d2 : decide (b < a) = false := decide_eq_false h2
      rw [if_neg h2]
      go_enter Try.func92, Try.ntmps92
      go_wp2_with (go_at_call 96; refine (N.out _ _).mono ?_; rintro e w1 ⟨rfl, hw⟩; rw [hw]; clear hw)
      go_ret
      exact ⟨rfl, rfl⟩
theorem cl_cmp (p : (Int × Int × List Int) × Sl) (t : Int) (w : World) : Calls Try.prog 91 #[.agg #[.int .i64 p.1.1, .int .i64 p.1.2.1, .slice p.2.a p.2.n p.2.c], .int .i64 t] w fun e w' => e = .returned (.int .i64 (cmpI p.1.1 t)) ∧ Below w.heap.size w w' := by
  have C : Hid (∀ X, Calls Try.prog 92 #[.int .i64 p.1.1, .int .i64 t] X fun e w' => e = .returned (.int .i64 (cmpI p.1.1 t)) ∧ w' = X) := fun X => cmp_any _ _ X
  go_enter Try.func91, Try.ntmps91
  go_wp2_with (go_at_call 92; refine (C.out _).mono ?_; rintro e w1 ⟨rfl, hw⟩; rw [hw]; clear hw)
  go_ret
  exact ⟨rfl, by go_grown⟩
/-- The search: the first place from which on none is below. -/
def srch (x : Nat → Int) (t : Int) : Nat → Nat → Nat → Nat
  | 0, i, _ => i
  | f + 1, i, j => if i < j then (if x ((i + j) / 2) < t then srch x t f ((i + j) / 2 + 1) j else srch x t f i ((i + j) / 2)) else i
theorem srch_end (x : Nat → Int) (t : Int) (f i j : Nat) (h : ¬ i < j) : srch x t f i j = i := by
  cases f with
  | zero => rfl
  | succ f => rw [srch, if_neg h]
set_option maxHeartbeats 4000000 in
set_option maxRecDepth 20000 in
theorem search_any (w : World) (s : Sl) (l : List ((Int × Int × List Int) × Sl)) (h : RdV w 3 s l.length (flat dEnc l)) (t : Int) (d : (Int × Int × List Int) × Sl) :
    Calls Try.prog 90 #[.slice s.a s.n s.c, .int .i64 t, .func (.func 91) #[] #[]] w fun e w' => e = .returned (.tuple #[.int .i64 ((srch (fun i => (l.getD i d).1.1) t l.length 0 l.length : Nat) : Int), .bool (decide (srch (fun i => (l.getD i d).1.1) t l.length 0 l.length < l.length) && ((cmpI (l.getD (srch (fun i => (l.getD i d).1.1) t l.length 0 l.length) d).1.1 t) == 0))]) ∧ Below w.heap.size w w' := by
  have C : Hid (∀ (p : (Int × Int × List Int) × Sl) (X : World), Calls Try.prog 91 #[.agg #[.int .i64 p.1.1, .int .i64 p.1.2.1, .slice p.2.a p.2.n p.2.c], .int .i64 t] X fun e w' => e = .returned (.int .i64 (cmpI p.1.1 t)) ∧ Below X.heap.size X w') := fun p X => cl_cmp p t X
  have hln := h.len
  have hmo := h.most
  have HM : Hid (∀ X, Below w.heap.size w X → l.length = 0 ∨ ∃ g off, s.a = some ⟨g, off, none⟩ ∧ g < X.heap.size ∧ ∀ j, j < l.length → ∀ m, m < 3 → X.cell? ⟨g, off + (j * 3 + m), none⟩ = (dEnc (l.getD j d))[m]?) := fun X hX => (h.below hX).many (fun x => rfl) _ (fun j hj => getD_at _ _ j hj)
  obtain ⟨g, off, hA⟩ : ∃ g off, l.length = 0 ∨ s.a = some ⟨g, off, none⟩ := by
    rcases h.at_ with h0 | ⟨g, off, h1, _⟩
    · exact ⟨0, 0, .inl h0⟩
    · exact ⟨g, off, .inr h1⟩
  obtain ⟨sa, sn, sc⟩ := s
  obtain ⟨n, hn⟩ : ∃ n, l.length = n := ⟨_, rfl⟩
  rw [hn] at HM hln hmo hA ⊢
  simp only at HM hln hA ⊢
  obtain ⟨F, hF⟩ : ∃ F, F = srch (fun i => (l.getD i d).1.1) t n 0 n := ⟨_, rfl⟩
  rw [← hF]
  have HF : Hid (F = srch (fun i => (l.getD i d).1.1) t n 0 n) := hF
  clear h hF hn
  subst hln
  rcases hA with h0 | rfl
  · subst h0
    have hF0 : F = 0 := HF.out
    subst hF0
    simp only [Nat.lt_irrefl, decide_false, Bool.false_and]
    clear HF HM
    go_enter Try.func90, Try.ntmps90
    go_wp2
    go_loopg [9, 10, 11] 0 (fun gf s9 s10 s11 wx => s9 = .int .i64 0 ∧ s10 = .int .i64 0 ∧ wx = w)
    case atStart => exact ⟨rfl, rfl, rfl⟩
    case round =>
      obtain ⟨rfl, rfl, hww⟩ := hrel
      obtain rfl := hww.symm
      go_wp2
      go_ret2
      exact ⟨rfl, Below.refl _ _⟩
  · have HN : Hid (∀ X, Below w.heap.size w X → ∀ j, j < sn → X.cell? ⟨g, off + j * 3, none⟩ = some (.int .i64 (l.getD j d).1.1) ∧ X.cell? ⟨g, off + j * 3 + 1, none⟩ = some (.int .i64 (l.getD j d).1.2.1) ∧ X.cell? ⟨g, off + j * 3 + 2, none⟩ = some (.slice (l.getD j d).2.a (l.getD j d).2.n (l.getD j d).2.c)) := fun X hX j hj => by
      rcases HM.out X hX with h0 | ⟨g1, off1, e1, e2, e3⟩
      · omega
      · injection e1 with e1; injection e1 with e4 e5; subst e4 e5
        refine ⟨e3 j hj 0 (by omega), ?_, ?_⟩
        · have := e3 j hj 1 (by omega); rwa [← Nat.add_assoc] at this
        · have := e3 j hj 2 (by omega); rwa [← Nat.add_assoc] at this
    clear HM
    go_enter Try.func90, Try.ntmps90
    go_wp2
    go_loopg [9, 10, 11] sn (fun gf s9 s10 s11 wx => ∃ i j : Nat, s9 = .int .i64 (i : Int) ∧ s10 = .int .i64 (j : Int) ∧ i ≤ j ∧ j ≤ sn ∧ j - i ≤ gf ∧ Hid (F = srch (fun i => (l.getD i d).1.1) t gf i j) ∧ Hid (Below w.heap.size w wx))
    case atStart => exact ⟨0, sn, rfl, rfl, by omega, by omega, by omega, HF.out, Below.refl _ _⟩
    case round =>
      obtain ⟨i, j, rfl, rfl, hij, hjn, hgf, HS, HB⟩ := hrel
      by_cases hlt : i < j
      · obtain ⟨g', rfl⟩ : ∃ g', gk = g' + 1 := ⟨gk - 1, by omega⟩
        have d1 : decide ((i : Int) < (j : Int)) = true := decide_eq_true (by omega)
        obtain ⟨m, hm⟩ : ∃ m, (i + j) / 2 = m := ⟨_, rfl⟩
        have eh : ((i : Int) + (j : Int)) / 2 = (m : Int) := by omega
        have j0 : (0 : Int) ≤ (m : Int) := by omega
        have j1 : (m : Int) < (sn : Int) := by omega
        have hl2 := HS.out
        rw [srch, if_pos hlt, hm] at hl2
        have hmn : m < sn := by omega
        obtain ⟨k0, k1, k2⟩ := HN.out wr HB.out m hmn
        obtain ⟨p, hp⟩ : ∃ p, l.getD m d = p := ⟨_, rfl⟩
        rw [hp] at hl2 k0 k1 k2
        by_cases hc : p.1.1 < t
        · rw [if_pos hc] at hl2
          have HL : Hid (F = srch (fun i => (l.getD i d).1.1) t g' (m + 1) j) := hl2
          have dc : decide (cmpI p.1.1 t < 0) = true := decide_eq_true (by unfold cmpI; rw [if_pos hc]; omega)
          clear hl2 HS hp
          go_wp2_with (go_at_call 91; refine (C.out p _).mono ?_; rintro e w1 ⟨rfl, hb⟩)
          go_roundg g'
          case measure => omega
          case rel => exact ⟨m + 1, j, by simp, rfl, by omega, by omega, by omega, HL.out, HB.out.trans (hb.mono HB.out.size)⟩
        · rw [if_neg hc] at hl2
          have HL : Hid (F = srch (fun i => (l.getD i d).1.1) t g' i m) := hl2
          have dc : decide (cmpI p.1.1 t < 0) = false := decide_eq_false (by unfold cmpI; rw [if_neg hc]; split <;> omega)
          clear hl2 HS hp
          go_wp2_with (go_at_call 91; refine (C.out p _).mono ?_; rintro e w1 ⟨rfl, hb⟩)
          go_roundg g'
          case measure => omega
          case rel => exact ⟨i, m, rfl, rfl, by omega, by omega, by omega, HL.out, HB.out.trans (hb.mono HB.out.size)⟩
      · have d1 : decide ((i : Int) < (j : Int)) = false := decide_eq_false (by omega)
        have hFi : F = i := by rw [HS.out]; exact srch_end _ _ _ _ _ hlt
        by_cases hin : i < sn
        · have d2 : decide ((i : Int) < (sn : Int)) = true := decide_eq_true (by omega)
          have d3 : decide (i < sn) = true := decide_eq_true hin
          have j0 : (0 : Int) ≤ (i : Int) := by omega
          have j1 : (i : Int) < (sn : Int) := by omega
          obtain ⟨k0, k1, k2⟩ := HN.out wr HB.out i hin
          obtain ⟨p, hp⟩ : ∃ p, l.getD i d = p := ⟨_, rfl⟩
          rw [hp] at k0 k1 k2
          have FIN : Hid (F = i ∧ decide (i < sn) = true ∧ l.getD i d = p) := ⟨hFi, d3, hp⟩
          clear HS hFi d3 hp
          go_wp2_with (go_at_call 91; refine (C.out p _).mono ?_; rintro e w1 ⟨rfl, hb⟩)
          go_ret2
          exact ⟨by rw [FIN.out.1, FIN.out.2.1, FIN.out.2.2]; rfl, HB.out.trans (hb.mono HB.out.size)⟩
        · have d2 : decide ((i : Int) < (sn : Int)) = false := decide_eq_false (by omega)
          have d3 : decide (i < sn) = false := decide_eq_false hin
          have FIN : Hid (F = i ∧ decide (i < sn) = false) := ⟨hFi, d3⟩
          clear HS hFi d3
          go_wp2
          go_ret2
          exact ⟨by rw [FIN.out.1, FIN.out.2]; rfl, HB.out⟩
def d0 : (Int × Int × List Int) × Sl := ((0, 0, []), ⟨none, 0, 0⟩)
/-- Is a type described? -/
def foundB (ts : List Int) (t : Int) : Bool := decide (srch (fun i => ts.getD i 0) t ts.length 0 ts.length < ts.length) && ((cmpI (ts.getD (srch (fun i => ts.getD i 0) t ts.length 0 ts.length) 0) t) == 0)
theorem getD_types (l : List ((Int × Int × List Int) × Sl)) (i : Nat) : (l.getD i d0).1.1 = (l.map (·.1.1)).getD i 0 := by
  rw [List.getD_eq_getElem?_getD, List.getD_eq_getElem?_getD, List.getElem?_map]
  cases l[i]? <;> rfl
theorem described_any (w : World) (s : Sl) (l : List ((Int × Int × List Int) × Sl)) (h : RdV w 3 s l.length (flat dEnc l)) (t : Int) :
    Calls Try.prog 79 #[.slice s.a s.n s.c, .int .i64 t] w fun e w' => e = .returned (.bool (foundB (l.map (·.1.1)) t)) ∧ Below w.heap.size w w' := by
  have S := search_any w s l h t d0
  have hx : (fun i => (l.getD i d0).1.1) = fun i => (l.map (·.1.1)).getD i 0 := funext fun i => getD_types l i
  rw [hx, getD_types] at S
  unfold foundB
  rw [List.length_map]
  clear h hx
  generalize srch (fun i => (l.map (·.1.1)).getD i 0) t l.length 0 l.length = F at *
  generalize (decide (F < l.length) && cmpI ((l.map (·.1.1)).getD F 0) t == 0) = B at *
  have HS := hid_of S
  clear S
  go_enter Try.func79, Try.ntmps79
  go_wp2_with (go_at_call 90; refine HS.out.mono ?_; rintro e w1 ⟨rfl, hb⟩)
  go_ret
  exact ⟨rfl, hb⟩
theorem cl_tag (w : World) (p : Nat) (s : Sl) (l : List ((Int × Int × List Int) × Sl)) (h : RdV w 3 s l.length (flat dEnc l)) (hp : w.cell? ⟨p, 0, none⟩ = some (.slice s.a s.n s.c)) (i t : Int) :
    Calls Try.prog 78 #[.int .i64 i, .int .i64 t, .pointer (some ⟨p, 0, none⟩)] w fun e w' => e = .returned (.bool (foundB (l.map (·.1.1)) t)) ∧ Below w.heap.size w w' := by
  have D : Hid (Calls Try.prog 79 #[.slice s.a s.n s.c, .int .i64 t] w _) := described_any w s l h t
  clear h
  go_enter Try.func78, Try.ntmps78
  go_wp2_with (go_at_call 79; refine D.out.mono ?_; rintro e w1 ⟨rfl, hb⟩)
  go_ret
  exact ⟨rfl, hb⟩
end Go.Proofs.Ytepgifapepaheaa
