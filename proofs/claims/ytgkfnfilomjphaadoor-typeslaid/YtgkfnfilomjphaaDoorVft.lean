/-
  Layer 11: whether two types of a row fit in one of some ways; Extends.
-/
import Derived.Test.YtgkfnfilomjphaaDoorVrd
import Derived.Test.YtgkfnfilomjphaaDoorVor
namespace Go.Proofs.YtgkfnfilomjphaaDoor
set_option linter.unusedVariables false
set_option linter.unusedSimpArgs false
open Go.ChangeShapes Go.WideShapes Go.ChangeAt Go.RowKit
attribute [local go_sem ↓] ldQ_seal stQ_seal

set_option maxHeartbeats 8000000 in
theorem some_any (w : World) (b : Nat) (c : Rc) (L T : List Tt) (A : List Int) (hr : RwR w b c L T A) (hg : Good T) (i j : Int) (g off : Nat) (hw : w.cell? ⟨g, off, none⟩ = some (.func (.func 22) #[] #[])) : Calls Tryd.prog 36 #[.agg (pE b i j), .slice (some ⟨g, off, none⟩) 1 1] w fun e w' => e = .returned (.bool (exB T i j)) ∧ Below w.heap.size w w' := by
  obtain ⟨W, hW⟩ : ∃ W, W = w.alloc (.cells (pE b i j) 62) := ⟨_, rfl⟩
  have hb : Below w.heap.size w W := by rw [hW]; exact (Below.refl _ _).alloc (Nat.le_refl _) _
  have PB := pair_box w b i j
  rw [← hW] at PB
  have HB := hid_of hb
  have hgl : g < w.heap.size := World.block_lt_of_cell? w ⟨g, off, none⟩ hw
  have cw : W.cell? ⟨g, off, none⟩ = some (.func (.func 22) #[] #[]) := (hb.cell (p := ⟨g, off, none⟩) hgl).trans hw
  have HA : Hid (∀ X, Below W.heap.size W X → Calls Tryd.prog 22 #[.agg (pE b i j)] X fun e w' => e = .returned (.bool (exB T i j)) ∧ Below X.heap.size X w') := hid_of fun X hX => extends_any X b c L T A ((hr.below hb).below hX) hg i j
  have HCW : Hid (∀ X, Below W.heap.size W X → X.cell? ⟨g, off, none⟩ = some (.func (.func 22) #[] #[])) := hid_of fun X hX => (hX.cell (p := ⟨g, off, none⟩) (Nat.lt_of_lt_of_le hgl hb.size)).trans cw
  clear hr hg hb hgl hw cw
  unfold pE at HA hW PB ⊢
  go_enter Tryd.func36, Tryd.ntmps36
  go_wp2
  rw [← hW]
  clear hW
  cases hx : exB T i j
  · rw [hx] at HA
    have HXX := hid_of hx
    clear hx
    go_loopw [9] (fun p wr => ∃ i : Nat, p = .int .i64 (i : Int) ∧ i ≤ 1 ∧ Hid (Below W.heap.size W wr)) (fun p wr => 1 - (ivOf p).toNat)
    case atStart => exact ⟨0, rfl, by omega, Below.refl _ _⟩
    case round =>
      obtain ⟨k, rfl, hk, HR⟩ := hrel
      by_cases h0 : k = 0
      · subst h0
        have cf := HCW.out wr HR.out
        obtain ⟨ld, _, _, _⟩ := PB.out wr HR.out
        have hlt := World.block_lt_of_cell? wr _ cf
        go_wp2_with (go_at_call 22; refine (HA.out _ HR.out).mono ?_; rintro e w2 ⟨rfl, hB⟩; have B2 := hid_of (HR.out.trans (hB.mono HR.out.size)); clear hB)
        go_roundw
        case rel => exact ⟨1, rfl, by omega, B2⟩
        case measure => simp [ivOf]
      · obtain rfl : k = 1 := by omega
        go_wp2
        go_ret
        exact ⟨by rw [HXX.out]; rfl, HB.out.trans (HR.out.mono HB.out.size)⟩
  · rw [hx] at HA
    have HXX := hid_of hx
    clear hx
    go_loopw [9] (fun p wr => p = .int .i64 0 ∧ wr = W) (fun p wr => 1 - (ivOf p).toNat)
    case atStart => exact ⟨rfl, rfl⟩
    case round =>
      obtain ⟨rfl, rfl⟩ := hrel
      have cf := HCW.out wr (Below.refl _ _)
      obtain ⟨ld, _, _, _⟩ := PB.out wr (Below.refl _ _)
      have hlt := World.block_lt_of_cell? wr _ cf
      go_wp2_with (go_at_call 22; refine (HA.out _ (Below.refl _ _)).mono ?_; rintro e w2 ⟨rfl, hB⟩; have B2 := hid_of hB; clear hB)
      go_ret
      exact ⟨by rw [HXX.out]; rfl, HB.out.trans (B2.out.mono HB.out.size)⟩
theorem tyD_el {T L : List Tt} (h : T.map ct = L.map ct) (i : Int) : (tyD T i).el = (tyD L i).el := by
  have h1 := tyD_ct T i
  rw [h, tyD_ct] at h1
  have h2 : (ct (tyD L i)).el = (ct (tyD T i)).el := by rw [h1]
  exact h2.symm
theorem isB_eq {T L : List Tt} (h : T.map ct = L.map ct) (i f : Int) : isB T i f = isB L i f := by rw [← isB_ct, h, isB_ct]
theorem upA_eq {T L : List Tt} (h : T.map ct = L.map ct) (i : Int) : upA T i = upA L i := by rw [← upA_ct, h, upA_ct]
theorem hasB_eq {T L : List Tt} (h : T.map ct = L.map ct) (i : Int) : hasB T i = hasB L i := by rw [← hasB_ct, h, hasB_ct]
theorem recB_eq {T L : List Tt} (h : T.map ct = L.map ct) (i j : Int) : recB T i j = recB L i j := by unfold recB; rw [isB_eq h, isB_eq h, upA_eq h]
theorem exB_eq {T L : List Tt} (h : T.map ct = L.map ct) (i j : Int) : exB T i j = exB L i j := by
  unfold exB ptB
  rw [recB_eq h, recB_eq h, isB_eq h, isB_eq h, tyD_el h, tyD_el h]
/-- A list as it is handed in. -/
structure LsR (w : World) (s : Sl) (L : List Tt) : Prop where
  li : RdV w 7 s L.length (flat ttE L)
  lf : ∀ t ∈ L, RdV w 3 t.sl t.fs.length (flat fdE t.fs)
  nm : ∀ t ∈ L, ∀ f ∈ t.fs, f.nm.size ≤ maxLen
  le : L.length ≤ 1954687338267
theorem LsR.call {w w' : World} {s : Sl} {L : List Tt} (h : LsR w s L) (hb : Below w.heap.size w w') : LsR w' s L := ⟨h.li.below hb, fun t ht => (h.lf t ht).below hb, h.nm, h.le⟩
theorem read_ls (w : World) (hv : Vs w) (s : Sl) (L : List Tt) (h : LsR w s L) : Calls Tryd.prog 15 #[.slice s.a s.n s.c] w (PostRd w L s) := read_any w hv s L h.li h.lf h.nm h.le
set_option maxHeartbeats 8000000 in
theorem fit_any (w : World) (hv : Vs w) (s : Sl) (L : List Tt) (h : LsR w s L) (i j : Int) (g off : Nat) (hw : w.cell? ⟨g, off, none⟩ = some (.func (.func 22) #[] #[])) : Calls Tryd.prog 21 #[.slice s.a s.n s.c, .int .i64 i, .int .i64 j, .slice (some ⟨g, off, none⟩) 1 1] w fun e w' => e = .returned (.bool (fitB L i j)) ∧ Below w.heap.size w w' := by
  have RD := hid_of (read_ls w hv s L h)
  have hgl : g < w.heap.size := World.block_lt_of_cell? w ⟨g, off, none⟩ hw
  have HW : Hid (∀ X, Below w.heap.size w X → X.cell? ⟨g, off, none⟩ = some (.func (.func 22) #[] #[])) := hid_of fun X hX => (hX.cell (p := ⟨g, off, none⟩) hgl).trans hw
  clear hv h hgl hw
  unfold fitB
  cases hrd : readB L
  · unfold PostRd at RD
    rw [hrd] at RD
    rw [Bool.false_and]
    clear hrd
    go_enter Tryd.func21, Tryd.ntmps21
    go_wp2_with (go_at_call 15; refine RD.out.mono ?_; rintro e w1 ⟨b, c, T, M, g1, rfl, hli, hO, hT⟩; have HO := hid_of hO; clear hO hT hli)
    go_ret
    exact ⟨rfl, HO.out.be⟩
  · rw [Bool.true_and]
    unfold PostRd at RD
    rw [hrd] at RD
    clear hrd
    cases hi : hasB L i
    · rw [Bool.false_and]
      have HI := hid_of hi
      clear hi
      go_enter Tryd.func21, Tryd.ntmps21
      go_wp2_with (first
        | (have hx := HO; clear hx; go_at_call 20; refine (has_any _ b c L T (alL T) HO.out.1.rw i).mono ?_; rintro e w2 ⟨rfl, hw2⟩; rw [hw2, HO.out.2 i, HI.out]; clear hw2)
        | (go_at_call 15; refine RD.out.mono ?_; rintro e w1 ⟨b, c, T, M, g1, rfl, hli, hO, hT⟩; have HO := hid_of (And.intro hO (fun i => hasB_eq (hO.fnd.all (hT rfl)).2 i)); clear hO hT hli))
      go_ret
      exact ⟨rfl, HO.out.1.be⟩
    · rw [Bool.true_and]
      have HI := hid_of hi
      clear hi
      cases hj : hasB L j
      · rw [Bool.false_and]
        have HJ := hid_of hj
        clear hj
        go_enter Tryd.func21, Tryd.ntmps21
        go_wp2_with (first
          | (have hx := HO; clear hx; go_at_call 20; refine (has_any _ b c L T (alL T) HO.out.1.rw _).mono ?_; rintro e w2 ⟨rfl, hw2⟩; rw [hw2]; (try rw [HO.out.2 i, HI.out]); (try rw [HO.out.2 j, HJ.out]); clear hw2)
          | (go_at_call 15; refine RD.out.mono ?_; rintro e w1 ⟨b, c, T, M, g1, rfl, hli, hO, hT⟩; have HO := hid_of (And.intro hO (fun i => hasB_eq (hO.fnd.all (hT rfl)).2 i)); clear hO hT hli))
        go_ret
        exact ⟨rfl, HO.out.1.be⟩
      · rw [Bool.true_and]
        have HJ := hid_of hj
        clear hj
        go_enter Tryd.func21, Tryd.ntmps21
        go_wp2_with (first
          | (have hx := HO; clear hx; go_at_call 20; refine (has_any _ b c L T (alL T) HO.out.1.rw _).mono ?_; rintro e w2 ⟨rfl, hw2⟩; rw [hw2]; (try rw [HO.out.2.1 i, HI.out]); (try rw [HO.out.2.1 j, HJ.out]); clear hw2)
          | (have hx := HO; clear hx; go_at_call 36; refine (some_any _ b c L T (alL T) HO.out.1.rw HO.out.1.fnd.inv.gd i j g off (HW.out _ HO.out.1.be)).mono ?_; rintro e w3 ⟨rfl, hB3⟩; rw [HO.out.2.2 i j]; have B3 := hid_of hB3; clear hB3)
          | (go_at_call 15; refine RD.out.mono ?_; rintro e w1 ⟨b, c, T, M, g1, rfl, hli, hO, hT⟩; have HO := hid_of (And.intro hO (And.intro (fun i => hasB_eq (hO.fnd.all (hT rfl)).2 i) (fun i j => exB_eq (hO.fnd.all (hT rfl)).2 i j))); clear hO hT hli))
        go_ret
        exact ⟨rfl, HO.out.1.be.trans (B3.out.mono HO.out.1.be.size)⟩
set_option maxHeartbeats 8000000 in
theorem extends_law (w : World) (hv : Vs w) (s : Sl) (L : List Tt) (h : LsR w s L) (i j : Int) : Calls Tryd.prog 9 #[.slice s.a s.n s.c, .int .i64 i, .int .i64 j] w fun e w' => e = .returned (.bool (fitB L i j)) ∧ Below w.heap.size w w' := by
  have hb : Below w.heap.size w (w.alloc (.cells #[.func (.func 22) #[] #[]] 60)) := (Below.refl _ _).alloc (Nat.le_refl _) _
  have FT := hid_of (fit_any _ (hv.call hb) s L (h.call hb) i j w.heap.size 0 ((BA.new w 60 #[.func (.func 22) #[] #[]]).cell 0))
  have HB := hid_of hb
  clear hv h hb
  go_enter Tryd.func9, Tryd.ntmps9
  go_wp2_with (go_at_call 21; refine FT.out.mono ?_; rintro e w2 ⟨rfl, hB2⟩)
  go_ret
  exact ⟨rfl, HB.out.trans (hB2.mono HB.out.size)⟩
end Go.Proofs.YtgkfnfilomjphaaDoor
