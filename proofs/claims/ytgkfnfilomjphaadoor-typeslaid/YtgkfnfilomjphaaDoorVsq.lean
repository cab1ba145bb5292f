/-
  Layer 11: whether two rows of fields are the same.
-/
import Derived.Test.YtgkfnfilomjphaaDoorVso
namespace Go.Proofs.YtgkfnfilomjphaaDoor
set_option linter.unusedVariables false
set_option linter.unusedSimpArgs false
open Go.ChangeShapes Go.WideShapes Go.ChangeAt Go.RowKit

def neF (x y : Value) : Sem Value := binOp .neq 33 x y
theorem neF_seal (x y : Value) : binOp .neq 33 x y = neF x y := rfl
def fdB (a b : Fd) : Bool := (a.nm.toList == b.nm.toList) && (a.ty == b.ty) && (a.off == b.off)
theorem neF_run (a b : Fd) (w : World) : (neF (.agg (fdE a)) (.agg (fdE b))).run Tryd.prog w = .ok (.bool (!fdB a b)) w := by
  unfold neF fdE fdB
  cases h1 : (a.nm.toList == b.nm.toList) <;> cases h2 : (a.ty == b.ty) <;> cases h3 : (a.off == b.off) <;> simp [go_sem, Tryd.underlying33, Tryd.underlying3, Tryd.underlying9, h1, h2, h3]
attribute [local go_sem ↓] ldF_seal stF_seal neF_seal
def fsB : List Fd → List Fd → Bool
  | [], [] => true
  | a :: r, b :: s => fdB a b && fsB r s
  | _, _ => false
theorem fsB_len : ∀ {xs ys : List Fd}, xs.length ≠ ys.length → fsB xs ys = false
  | [], [], h => absurd rfl h
  | [], _ :: _, _ => rfl
  | _ :: _, [], _ => rfl
  | a :: r, b :: s, h => by rw [fsB, fsB_len (by simpa using h), Bool.and_false]
theorem bl_drewT (X : World) : Below X.heap.size X X.drew := (Below.refl _ _).drew
set_option maxHeartbeats 8000000 in
theorem equalF_any (w : World) (xs ys : List Fd) (s t : Sl) (hx : RdV w 3 s xs.length (flat fdE xs)) (hy : RdV w 3 t ys.length (flat fdE ys)) : Calls Tryd.prog 40 #[.slice s.a s.n s.c, .slice t.a t.n t.c] w fun e w' => e = .returned (.bool (fsB xs ys)) ∧ Below w.heap.size w w' := by
  obtain ⟨sa, sn, sc⟩ := s
  obtain ⟨ta, tn, tc⟩ := t
  have h1 : sn = xs.length := hx.len
  have h2 : tn = ys.length := hy.len
  subst h1 h2
  dsimp only
  have mx := hx.most
  by_cases hl : xs.length = ys.length
  rotate_left
  · have d1 : ((xs.length : Int) != (ys.length : Int)) = true := by simp; omega
    have d2 : decide ((xs.length : Int) = (ys.length : Int)) = false := decide_eq_false (by omega)
    have d3 : (xs.length != ys.length) = true := by simpa using hl
    have d4 : decide (xs.length = ys.length) = false := decide_eq_false hl
    rw [fsB_len hl]
    have HL := hid_of hl
    clear hx hy hl
    go_enter Tryd.func40, Tryd.ntmps40
    go_wp2
    go_ret
    exact ⟨rfl, Below.refl _ _⟩
  have HX := hid_of hx
  have HY := hid_of hy
  have HL := hid_of hl
  obtain ⟨n, hn⟩ : ∃ n, n = xs.length := ⟨_, rfl⟩
  rw [← hl, ← hn]
  rw [← hn] at mx
  have HN := hid_of hn
  clear hx hy hl hn
  go_enter Tryd.func40, Tryd.ntmps40
  go_wp2
  go_loopg [5, 13] n (fun gf s5 s13 wx => ∃ i : Nat, s13 = .int .i64 (i : Int) ∧ i + gf = n ∧ Hid (fsB xs ys = fsB (xs.drop i) (ys.drop i) ∧ Below w.heap.size w wx))
  case atStart => exact ⟨0, rfl, by omega, rfl, Below.refl _ _⟩
  case round =>
    obtain ⟨i, rfl, hi, HH⟩ := hrel
    by_cases hlt : i < n
    · obtain ⟨g', rfl⟩ : ∃ g', gk = g' + 1 := ⟨gk - 1, by omega⟩
      have d1 : decide ((i : Int) < (n : Int)) = true := decide_eq_true (by omega)
      have j0 : (0 : Int) ≤ (i : Int) := by omega
      have j1 : (i : Int) < (n : Int) := by omega
      have ix : i < xs.length := by have := HN.out; omega
      have iy : i < ys.length := by have := HN.out; have := HL.out; omega
      have hb := HH.out.2.trans ((bl_drewT wr).mono HH.out.2.size)
      obtain ⟨b1, o1, e1, _, c1⟩ := (HX.out.below hb).elem (fun _ => rfl) i ix
      obtain ⟨b2, o2, e2, _, c2⟩ := (HY.out.below hb).elem (fun _ => rfl) i iy
      dsimp only at e1 e2
      subst e1 e2
      have l1 := ldT_mid (ty := 33) c1 Tryd.underlying33 rfl (by kernel_rfl)
      have l2 := ldT_mid (ty := 33) c2 Tryd.underlying33 rfl (by kernel_rfl)
      have hne := neF_run xs[i] ys[i] wr.drew
      have hx2 : xs.drop i = xs[i] :: xs.drop (i + 1) := List.drop_eq_getElem_cons ix
      have hy2 : ys.drop i = ys[i] :: ys.drop (i + 1) := List.drop_eq_getElem_cons iy
      have hF := HH.out.1
      rw [hx2, hy2, fsB] at hF
      have HB := hid_of hb
      clear hb c1 c2 hx2 hy2 HH
      generalize fdE xs[i] = fx at *
      generalize fdE ys[i] = fy at *
      cases hq : fdB xs[i] ys[i]
      · rw [hq] at hne hF
        have HF : Hid (fsB xs ys = false) := hid_of (by rw [hF]; rfl)
        clear hF hq
        go_wp2_with fail
        go_region
        all_goals
          go_wp2_with fail
          go_ret
          exact ⟨ret_bool HF.out.symm, HB.out⟩
      · rw [hq] at hne hF
        have HF : Hid (fsB xs ys = fsB (xs.drop (i + 1)) (ys.drop (i + 1))) := hid_of (by rw [hF]; rfl)
        clear hF hq
        go_wp2_with fail
        go_region
        all_goals
          go_wp2_with fail
          go_roundg g'
          case measure => omega
          case rel => exact ⟨i + 1, by simp, by omega, HF.out, HB.out⟩
    · have d1 : decide ((i : Int) < (n : Int)) = false := decide_eq_false (by omega)
      have HF : Hid (fsB xs ys = true) := hid_of (by
        rw [HH.out.1, List.drop_of_length_le (by have := HN.out; omega), List.drop_of_length_le (by have := HN.out; have := HL.out; omega)]
        rfl)
      go_wp2
      go_ret
      exact ⟨ret_bool HF.out.symm, HH.out.2⟩
end Go.Proofs.YtgkfnfilomjphaaDoor
