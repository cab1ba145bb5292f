/-
  Layer 13: whether each thing of a row may be; procedures.
-/
import Derived.Test.YtcppgpcgbggdcaaDoorYvr
namespace Go.Proofs.YtcppgpcgbggdcaaDoor
set_option linter.unusedVariables false
set_option linter.unusedSimpArgs false
open Go.ChangeShapes Go.WideShapes Go.ChangeAt Go.RowKit
attribute [local go_sem ↓] ldC_seal stC_seal ldV_seal stV_seal ldP_seal stP_seal

theorem RdV.elem {X : World} {k : Nat} {s : Sl} {α : Type} {enc : α → Array Value} {xs : List α} (h : RdV X k s xs.length (flat enc xs)) (he : ∀ x, (enc x).size = k) (i : Nat) (hi : i < xs.length) : ∃ g off, s.a = some ⟨g, off, none⟩ ∧ g < X.heap.size ∧ ∀ j v, (enc xs[i]).toList[j]? = some v → X.cell? ⟨g, off + i * k + j, none⟩ = some v := by
  rcases h.at_ with h0 | ⟨g, off, ha, hg, hc⟩
  · omega
  · refine ⟨g, off, ha, hg, fun j v hv => ?_⟩
    have hj : j < k := by
      have := (List.getElem?_eq_some_iff.1 hv).1
      rw [Array.length_toList, he] at this
      exact this
    have := hc (i * k + j) v (by rw [flat_at enc k he xs i hi j hj]; rw [← Array.getElem?_toList]; exact hv)
    rw [← Nat.add_assoc] at this
    exact this
def zeroV : Array Value := #[.string ⟨#[]⟩, .int .i64 0, .int .i64 0, .bool false, .bool false]
set_option maxHeartbeats 4000000 in
set_option maxRecDepth 20000 in
theorem each_con (P : Cn → Bool) (xs : List (Cn)) (s : Sl) (most : Int) (w : World) (h : RdV w 5 s xs.length (flat cEnc xs))
    (hP : ∀ x ∈ xs, ∀ X, Below w.heap.size w X → Calls Tryd.prog 23 #[.agg (cEnc x)] X fun e Y => e = .returned (.bool (P x)) ∧ Below X.heap.size X Y) :
    Calls Tryd.prog 22 #[.slice s.a s.n s.c, .int .i64 most, .func (.func 23) #[] #[]] w fun e w' => e = .returned (.bool (decide ((xs.length : Int) ≤ most) && xs.all P)) ∧ Below w.heap.size w w' := by
  obtain ⟨a, sn, sc⟩ := s
  have hsn : sn = xs.length := h.len
  subst hsn
  have hmo := h.most
  have HR := hid_of h
  have HP := hid_of hP
  clear h hP
  dsimp only
  by_cases hm : (xs.length : Int) ≤ most
  · rw [decide_eq_true hm]
    have d0 : decide (most < (xs.length : Int)) = false := decide_eq_false (by omega)
    go_enter Tryd.func22, Tryd.ntmps22
    go_wp2
    go_loopg [8, 15] xs.length (fun gf s8 s15 wx => ∃ i : Nat, s15 = .int .i64 (i : Int) ∧ i + gf = xs.length ∧ Hid ((∀ j (hj : j < xs.length), j < i → P xs[j] = true) ∧ Below w.heap.size w wx))
    case atStart => exact ⟨0, rfl, by omega, (fun j _ hj => by omega), Below.refl _ _⟩
    case round =>
      obtain ⟨i, rfl, hi, HH⟩ := hrel
      by_cases hlt : i < xs.length
      · obtain ⟨g', rfl⟩ : ∃ g', gk = g' + 1 := ⟨gk - 1, by omega⟩
        have d1 : decide ((i : Int) < (xs.length : Int)) = true := decide_eq_true (by omega)
        have j0 : (0 : Int) ≤ (i : Int) := by omega
        have j1 : (i : Int) < (xs.length : Int) := by omega
        obtain ⟨g, off, rfl, hg, hc⟩ := (HR.out.below HH.out.2).elem (fun _ => rfl) i hlt
        have hl0 := ldT_mid (ty := 53) hc Tryd.underlying53 rfl (by kernel_rfl)
        obtain ⟨Z, z1, z2, z3⟩ := stT_run (w := wr.alloc (.cells zeroC 53)) (cEnc xs[i]) (BA.new wr _ zeroC) rfl (by kernel_rfl) (by simp [cEnc, Value.oneCell'])
        have hl1 := ldT_run z2 Tryd.underlying53 rfl (by kernel_rfl)
        have bZ : Below wr.heap.size wr Z := ((Below.refl _ _).alloc (Nat.le_refl _) _).trans (z3.bel (by simp) (Nat.le_refl _))
        have PC := HP.out xs[i] (List.getElem_mem hlt) Z (HH.out.2.trans (bZ.mono HH.out.2.size))
        have HB := hid_of (HH.out.2.trans (bZ.mono HH.out.2.size))
        generalize cEnc xs[i] = cc at hl0 z1 hl1 PC
        unfold zeroC at z1
        have HC := hid_of PC
        clear PC hc z2 z3
        cases hp : P xs[i]
        · rw [hp] at HC
          go_wp2_with (go_at_call 23; refine HC.out.mono ?_; rintro e w2 ⟨rfl, hb2⟩)
          go_ret
          refine ⟨ret_bool ?_, HB.out.trans (hb2.mono HB.out.size)⟩
          cases hx : xs.all P
          · rfl
          · rw [List.all_eq_true] at hx
            rw [hx _ (List.getElem_mem hlt)] at hp; cases hp
        · rw [hp] at HC
          go_wp2_with (go_at_call 23; refine HC.out.mono ?_; rintro e w2 ⟨rfl, hb2⟩)
          go_roundg g'
          case measure => omega
          case rel => exact ⟨i + 1, by simp, by omega, (fun j hj hj2 => by rcases Nat.lt_succ_iff_lt_or_eq.1 hj2 with h | h; exact HH.out.1 j hj h; subst h; exact hp), HB.out.trans (hb2.mono HB.out.size)⟩
      · have d1 : decide ((i : Int) < (xs.length : Int)) = false := decide_eq_false (by omega)
        go_wp2
        go_ret
        refine ⟨ret_bool ?_, HH.out.2⟩
        symm
        rw [Bool.true_and, List.all_eq_true]
        intro x hx
        obtain ⟨j, hj, rfl⟩ := List.getElem_of_mem hx
        exact HH.out.1 j hj (by omega)
  · rw [decide_eq_false hm]
    have d0 : decide (most < (xs.length : Int)) = true := decide_eq_true (by omega)
    go_enter Tryd.func22, Tryd.ntmps22
    go_wp2
    go_ret
    exact ⟨rfl, Below.refl _ _⟩
set_option maxHeartbeats 4000000 in
set_option maxRecDepth 20000 in
theorem each_var (P : Vr → Bool) (xs : List (Vr)) (s : Sl) (most : Int) (w : World) (h : RdV w 5 s xs.length (flat vEnc xs))
    (hP : ∀ x ∈ xs, ∀ X, Below w.heap.size w X → Calls Tryd.prog 25 #[.agg (vEnc x)] X fun e Y => e = .returned (.bool (P x)) ∧ Below X.heap.size X Y) :
    Calls Tryd.prog 24 #[.slice s.a s.n s.c, .int .i64 most, .func (.func 25) #[] #[]] w fun e w' => e = .returned (.bool (decide ((xs.length : Int) ≤ most) && xs.all P)) ∧ Below w.heap.size w w' := by
  obtain ⟨a, sn, sc⟩ := s
  have hsn : sn = xs.length := h.len
  subst hsn
  have hmo := h.most
  have HR := hid_of h
  have HP := hid_of hP
  clear h hP
  dsimp only
  by_cases hm : (xs.length : Int) ≤ most
  · rw [decide_eq_true hm]
    have d0 : decide (most < (xs.length : Int)) = false := decide_eq_false (by omega)
    go_enter Tryd.func24, Tryd.ntmps24
    go_wp2
    go_loopg [8, 15] xs.length (fun gf s8 s15 wx => ∃ i : Nat, s15 = .int .i64 (i : Int) ∧ i + gf = xs.length ∧ Hid ((∀ j (hj : j < xs.length), j < i → P xs[j] = true) ∧ Below w.heap.size w wx))
    case atStart => exact ⟨0, rfl, by omega, (fun j _ hj => by omega), Below.refl _ _⟩
    case round =>
      obtain ⟨i, rfl, hi, HH⟩ := hrel
      by_cases hlt : i < xs.length
      · obtain ⟨g', rfl⟩ : ∃ g', gk = g' + 1 := ⟨gk - 1, by omega⟩
        have d1 : decide ((i : Int) < (xs.length : Int)) = true := decide_eq_true (by omega)
        have j0 : (0 : Int) ≤ (i : Int) := by omega
        have j1 : (i : Int) < (xs.length : Int) := by omega
        obtain ⟨g, off, rfl, hg, hc⟩ := (HR.out.below HH.out.2).elem (fun _ => rfl) i hlt
        have hl0 := ldT_mid (ty := 69) hc Tryd.underlying69 rfl (by kernel_rfl)
        obtain ⟨Z, z1, z2, z3⟩ := stT_run (w := wr.alloc (.cells zeroV 69)) (vEnc xs[i]) (BA.new wr _ zeroV) rfl (by kernel_rfl) (by simp [vEnc, Value.oneCell'])
        have hl1 := ldT_run z2 Tryd.underlying69 rfl (by kernel_rfl)
        have bZ : Below wr.heap.size wr Z := ((Below.refl _ _).alloc (Nat.le_refl _) _).trans (z3.bel (by simp) (Nat.le_refl _))
        have PC := HP.out xs[i] (List.getElem_mem hlt) Z (HH.out.2.trans (bZ.mono HH.out.2.size))
        have HB := hid_of (HH.out.2.trans (bZ.mono HH.out.2.size))
        generalize vEnc xs[i] = cc at hl0 z1 hl1 PC
        unfold zeroV at z1
        have HC := hid_of PC
        clear PC hc z2 z3
        cases hp : P xs[i]
        · rw [hp] at HC
          go_wp2_with (go_at_call 25; refine HC.out.mono ?_; rintro e w2 ⟨rfl, hb2⟩)
          go_ret
          refine ⟨ret_bool ?_, HB.out.trans (hb2.mono HB.out.size)⟩
          cases hx : xs.all P
          · rfl
          · rw [List.all_eq_true] at hx
            rw [hx _ (List.getElem_mem hlt)] at hp; cases hp
        · rw [hp] at HC
          go_wp2_with (go_at_call 25; refine HC.out.mono ?_; rintro e w2 ⟨rfl, hb2⟩)
          go_roundg g'
          case measure => omega
          case rel => exact ⟨i + 1, by simp, by omega, (fun j hj hj2 => by rcases Nat.lt_succ_iff_lt_or_eq.1 hj2 with h | h; exact HH.out.1 j hj h; subst h; exact hp), HB.out.trans (hb2.mono HB.out.size)⟩
      · have d1 : decide ((i : Int) < (xs.length : Int)) = false := decide_eq_false (by omega)
        go_wp2
        go_ret
        refine ⟨ret_bool ?_, HH.out.2⟩
        symm
        rw [Bool.true_and, List.all_eq_true]
        intro x hx
        obtain ⟨j, hj, rfl⟩ := List.getElem_of_mem hx
        exact HH.out.1 j hj (by omega)
  · rw [decide_eq_false hm]
    have d0 : decide (most < (xs.length : Int)) = true := decide_eq_true (by omega)
    go_enter Tryd.func24, Tryd.ntmps24
    go_wp2
    go_ret
    exact ⟨rfl, Below.refl _ _⟩
set_option maxHeartbeats 4000000 in
set_option maxRecDepth 20000 in
theorem each_par (P : Vr → Bool) (xs : List (Vr)) (s : Sl) (most : Int) (w : World) (h : RdV w 5 s xs.length (flat vEnc xs))
    (hP : ∀ x ∈ xs, ∀ X, Below w.heap.size w X → Calls Tryd.prog 54 #[.agg (vEnc x)] X fun e Y => e = .returned (.bool (P x)) ∧ Below X.heap.size X Y) :
    Calls Tryd.prog 24 #[.slice s.a s.n s.c, .int .i64 most, .func (.func 54) #[] #[]] w fun e w' => e = .returned (.bool (decide ((xs.length : Int) ≤ most) && xs.all P)) ∧ Below w.heap.size w w' := by
  obtain ⟨a, sn, sc⟩ := s
  have hsn : sn = xs.length := h.len
  subst hsn
  have hmo := h.most
  have HR := hid_of h
  have HP := hid_of hP
  clear h hP
  dsimp only
  by_cases hm : (xs.length : Int) ≤ most
  · rw [decide_eq_true hm]
    have d0 : decide (most < (xs.length : Int)) = false := decide_eq_false (by omega)
    go_enter Tryd.func24, Tryd.ntmps24
    go_wp2
    go_loopg [8, 15] xs.length (fun gf s8 s15 wx => ∃ i : Nat, s15 = .int .i64 (i : Int) ∧ i + gf = xs.length ∧ Hid ((∀ j (hj : j < xs.length), j < i → P xs[j] = true) ∧ Below w.heap.size w wx))
    case atStart => exact ⟨0, rfl, by omega, (fun j _ hj => by omega), Below.refl _ _⟩
    case round =>
      obtain ⟨i, rfl, hi, HH⟩ := hrel
      by_cases hlt : i < xs.length
      · obtain ⟨g', rfl⟩ : ∃ g', gk = g' + 1 := ⟨gk - 1, by omega⟩
        have d1 : decide ((i : Int) < (xs.length : Int)) = true := decide_eq_true (by omega)
        have j0 : (0 : Int) ≤ (i : Int) := by omega
        have j1 : (i : Int) < (xs.length : Int) := by omega
        obtain ⟨g, off, rfl, hg, hc⟩ := (HR.out.below HH.out.2).elem (fun _ => rfl) i hlt
        have hl0 := ldT_mid (ty := 69) hc Tryd.underlying69 rfl (by kernel_rfl)
        obtain ⟨Z, z1, z2, z3⟩ := stT_run (w := wr.alloc (.cells zeroV 69)) (vEnc xs[i]) (BA.new wr _ zeroV) rfl (by kernel_rfl) (by simp [vEnc, Value.oneCell'])
        have hl1 := ldT_run z2 Tryd.underlying69 rfl (by kernel_rfl)
        have bZ : Below wr.heap.size wr Z := ((Below.refl _ _).alloc (Nat.le_refl _) _).trans (z3.bel (by simp) (Nat.le_refl _))
        have PC := HP.out xs[i] (List.getElem_mem hlt) Z (HH.out.2.trans (bZ.mono HH.out.2.size))
        have HB := hid_of (HH.out.2.trans (bZ.mono HH.out.2.size))
        generalize vEnc xs[i] = cc at hl0 z1 hl1 PC
        unfold zeroV at z1
        have HC := hid_of PC
        clear PC hc z2 z3
        cases hp : P xs[i]
        · rw [hp] at HC
          go_wp2_with (go_at_call 54; refine HC.out.mono ?_; rintro e w2 ⟨rfl, hb2⟩)
          go_ret
          refine ⟨ret_bool ?_, HB.out.trans (hb2.mono HB.out.size)⟩
          cases hx : xs.all P
          · rfl
          · rw [List.all_eq_true] at hx
            rw [hx _ (List.getElem_mem hlt)] at hp; cases hp
        · rw [hp] at HC
          go_wp2_with (go_at_call 54; refine HC.out.mono ?_; rintro e w2 ⟨rfl, hb2⟩)
          go_roundg g'
          case measure => omega
          case rel => exact ⟨i + 1, by simp, by omega, (fun j hj hj2 => by rcases Nat.lt_succ_iff_lt_or_eq.1 hj2 with h | h; exact HH.out.1 j hj h; subst h; exact hp), HB.out.trans (hb2.mono HB.out.size)⟩
      · have d1 : decide ((i : Int) < (xs.length : Int)) = false := decide_eq_false (by omega)
        go_wp2
        go_ret
        refine ⟨ret_bool ?_, HH.out.2⟩
        symm
        rw [Bool.true_and, List.all_eq_true]
        intro x hx
        obtain ⟨j, hj, rfl⟩ := List.getElem_of_mem hx
        exact HH.out.1 j hj (by omega)
  · rw [decide_eq_false hm]
    have d0 : decide (most < (xs.length : Int)) = true := decide_eq_true (by omega)
    go_enter Tryd.func24, Tryd.ntmps24
    go_wp2
    go_ret
    exact ⟨rfl, Below.refl _ _⟩
set_option maxHeartbeats 4000000 in
set_option maxRecDepth 20000 in
theorem each_prc (P : Pc × Sl → Bool) (xs : List (Pc × Sl)) (s : Sl) (most : Int) (w : World) (h : RdV w 3 s xs.length (flat pEnc xs))
    (hP : ∀ x ∈ xs, ∀ X, Below w.heap.size w X → Calls Tryd.prog 27 #[.agg (pEnc x)] X fun e Y => e = .returned (.bool (P x)) ∧ Below X.heap.size X Y) :
    Calls Tryd.prog 26 #[.slice s.a s.n s.c, .int .i64 most, .func (.func 27) #[] #[]] w fun e w' => e = .returned (.bool (decide ((xs.length : Int) ≤ most) && xs.all P)) ∧ Below w.heap.size w w' := by
  obtain ⟨a, sn, sc⟩ := s
  have hsn : sn = xs.length := h.len
  subst hsn
  have hmo := h.most
  have HR := hid_of h
  have HP := hid_of hP
  clear h hP
  dsimp only
  by_cases hm : (xs.length : Int) ≤ most
  · rw [decide_eq_true hm]
    have d0 : decide (most < (xs.length : Int)) = false := decide_eq_false (by omega)
    go_enter Tryd.func26, Tryd.ntmps26
    go_wp2
    go_loopg [8, 15] xs.length (fun gf s8 s15 wx => ∃ i : Nat, s15 = .int .i64 (i : Int) ∧ i + gf = xs.length ∧ Hid ((∀ j (hj : j < xs.length), j < i → P xs[j] = true) ∧ Below w.heap.size w wx))
    case atStart => exact ⟨0, rfl, by omega, (fun j _ hj => by omega), Below.refl _ _⟩
    case round =>
      obtain ⟨i, rfl, hi, HH⟩ := hrel
      by_cases hlt : i < xs.length
      · obtain ⟨g', rfl⟩ : ∃ g', gk = g' + 1 := ⟨gk - 1, by omega⟩
        have d1 : decide ((i : Int) < (xs.length : Int)) = true := decide_eq_true (by omega)
        have j0 : (0 : Int) ≤ (i : Int) := by omega
        have j1 : (i : Int) < (xs.length : Int) := by omega
        obtain ⟨g, off, rfl, hg, hc⟩ := (HR.out.below HH.out.2).elem (fun _ => rfl) i hlt
        have hl0 := ldT_mid (ty := 63) hc Tryd.underlying63 rfl (by kernel_rfl)
        obtain ⟨Z, z1, z2, z3⟩ := stT_run (w := wr.alloc (.cells zeroP 63)) (pEnc xs[i]) (BA.new wr _ zeroP) rfl (by kernel_rfl) (by simp [pEnc, Value.oneCell'])
        have hl1 := ldT_run z2 Tryd.underlying63 rfl (by kernel_rfl)
        have bZ : Below wr.heap.size wr Z := ((Below.refl _ _).alloc (Nat.le_refl _) _).trans (z3.bel (by simp) (Nat.le_refl _))
        have PC := HP.out xs[i] (List.getElem_mem hlt) Z (HH.out.2.trans (bZ.mono HH.out.2.size))
        have HB := hid_of (HH.out.2.trans (bZ.mono HH.out.2.size))
        generalize pEnc xs[i] = cc at hl0 z1 hl1 PC
        unfold zeroP at z1
        have HC := hid_of PC
        clear PC hc z2 z3
        cases hp : P xs[i]
        · rw [hp] at HC
          go_wp2_with (go_at_call 27; refine HC.out.mono ?_; rintro e w2 ⟨rfl, hb2⟩)
          go_ret
          refine ⟨ret_bool ?_, HB.out.trans (hb2.mono HB.out.size)⟩
          cases hx : xs.all P
          · rfl
          · rw [List.all_eq_true] at hx
            rw [hx _ (List.getElem_mem hlt)] at hp; cases hp
        · rw [hp] at HC
          go_wp2_with (go_at_call 27; refine HC.out.mono ?_; rintro e w2 ⟨rfl, hb2⟩)
          go_roundg g'
          case measure => omega
          case rel => exact ⟨i + 1, by simp, by omega, (fun j hj hj2 => by rcases Nat.lt_succ_iff_lt_or_eq.1 hj2 with h | h; exact HH.out.1 j hj h; subst h; exact hp), HB.out.trans (hb2.mono HB.out.size)⟩
      · have d1 : decide ((i : Int) < (xs.length : Int)) = false := decide_eq_false (by omega)
        go_wp2
        go_ret
        refine ⟨ret_bool ?_, HH.out.2⟩
        symm
        rw [Bool.true_and, List.all_eq_true]
        intro x hx
        obtain ⟨j, hj, rfl⟩ := List.getElem_of_mem hx
        exact HH.out.1 j hj (by omega)
  · rw [decide_eq_false hm]
    have d0 : decide (most < (xs.length : Int)) = true := decide_eq_true (by omega)
    go_enter Tryd.func26, Tryd.ntmps26
    go_wp2
    go_ret
    exact ⟨rfl, Below.refl _ _⟩
/-- May it be a procedure? -/
def prcB (p : Pc) : Bool := (decide ((p.ps.length : Int) ≤ 8) && p.ps.all parB) && (resB p.rs && nameB p.nm)
set_option maxHeartbeats 4000000 in
set_option maxRecDepth 20000 in
theorem isProc_any (p : Pc × Sl) (w : World) (hr : RdV w 5 p.2 p.1.ps.length (flat vEnc p.1.ps)) (hs : p.1.nm.size ≤ 140737488355328) : Calls Tryd.prog 27 #[.agg (pEnc p)] w fun e w' => e = .returned (.bool (prcB p.1)) ∧ Below w.heap.size w w' := by
  have EA : Hid (∀ X, Below w.heap.size w X → Calls Tryd.prog 24 #[.slice p.2.a p.2.n p.2.c, .int .i64 8, .func (.func 54) #[] #[]] X _) := fun X hX => each_par parB p.1.ps p.2 8 X (hr.below hX) (fun x _ Y _ => isParam_any x Y)
  have RS : Hid (∀ X, Calls Tryd.prog 55 #[.int .i64 p.1.rs] X fun e w' => e = .returned (.bool (resB p.1.rs)) ∧ w' = X) := fun X => isResult_any p.1.rs X
  have NM : Hid (∀ X, Calls Tryd.prog 21 #[.string p.1.nm] X fun e w' => e = .returned (.bool (nameB p.1.nm)) ∧ w' = X) := fun X => isName_any p.1.nm X hs
  unfold prcB pEnc
  generalize (decide ((p.1.ps.length : Int) ≤ 8) && p.1.ps.all parB) = b1 at *
  generalize resB p.1.rs = b2 at *
  generalize nameB p.1.nm = b3 at *
  clear hr hs
  have kk : ∀ Y, Below (w.heap.size + 1) (w.alloc (.cells #[.string p.1.nm, .slice p.2.a p.2.n p.2.c, .int .i64 p.1.rs] 63)) Y → Y.cell? ⟨w.heap.size, 2, none⟩ = some (.int .i64 p.1.rs) ∧ Y.cell? ⟨w.heap.size, 0, none⟩ = some (.string p.1.nm) := fun Y hY => ⟨(hY.cell (p := ⟨w.heap.size, 2, none⟩) (Nat.lt_succ_self _)).trans (blk_cell (blk_new w _) 2), (hY.cell (p := ⟨w.heap.size, 0, none⟩) (Nat.lt_succ_self _)).trans (blk_cell (blk_new w _) 0)⟩
  have KK := hid_of kk
  clear kk
  cases b1 <;> cases b2
  all_goals
    go_enter Tryd.func27, Tryd.ntmps27
    go_wp2_with (first
      | (go_at_call 24; refine (EA.out _ (by go_grown)).mono ?_; rintro e w1 ⟨rfl, hb1⟩; have kz := KK.out w1 (by simpa using hb1); obtain ⟨k2, k0⟩ := kz; have HB := hid_of (show Below w.heap.size w w1 from ((Below.refl _ _).alloc (Nat.le_refl _) _).trans (hb1.mono (by simp))); clear hb1)
      | (go_at_call 55; refine (RS.out _).mono ?_; rintro e w2 ⟨rfl, hw2⟩; rw [hw2]; clear hw2)
      | (go_at_call 21; refine (NM.out _).mono ?_; rintro e w3 ⟨rfl, hw3⟩; rw [hw3]; clear hw3))
    go_ret
    exact ⟨rfl, HB.out⟩
end Go.Proofs.YtcppgpcgbggdcaaDoor
