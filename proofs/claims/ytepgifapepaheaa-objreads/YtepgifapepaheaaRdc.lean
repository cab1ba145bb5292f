/-
  Layer 7: whether an object's descriptors are right.
-/
import Derived.Test.YtepgifapepaheaaRtr
namespace Go.Proofs.Ytepgifapepaheaa
set_option linter.unusedVariables false
set_option linter.unusedSimpArgs false
open Go.ChangeShapes Go.WideShapes Go.ChangeAt Go.RowKit

def descB (ds : List (Int × Int × List Int)) (i : Nat) (x : Int × Int × List Int) : Bool := decide (8 ≤ x.1) && (decide (x.1 < 200) && ((decide (i = 0) || decide ((ds.getD (i - 1) (0, 0, [])).1 < x.1)) && (decide (0 ≤ x.2.1) && (decide (x.2.1 ≤ 16384) && ((x.2.1 % 4 == 0) && tagsB (ds.map (·.1)) x)))))
/-- What stands while descriptors are looked at. -/
structure EI (w X : World) (s : Sl) (l : List ((Int × Int × List Int) × Sl)) : Prop where
  rd : RdV X 3 s l.length (flat dEnc l)
  tg : ∀ p ∈ l, RdV X 1 p.2 p.1.2.2.length (p.1.2.2.map (Value.int .i64))
  b1 : X.heap[w.heap.size]? = some (.cells #[.slice s.a s.n s.c] 30 (0, 0))
  be : Below w.heap.size w X
theorem EI.below {w X Y : World} {s : Sl} {l : List ((Int × Int × List Int) × Sl)} (h : EI w X s l) (hb : Below X.heap.size X Y) : EI w Y s l := by
  have l1 := (Array.getElem?_eq_some_iff.1 h.b1).1
  exact ⟨h.rd.below hb, fun p hp => (h.tg p hp).below hb, (hb.block _ l1).trans h.b1, h.be.trans (hb.mono (Nat.le_of_lt l1))⟩
/-- What stands while one is looked at, in a box of its own. -/
structure FI (v w X : World) (s : Sl) (l : List ((Int × Int × List Int) × Sl)) (p : (Int × Int × List Int) × Sl) : Prop where
  e : EI v X s l
  b2 : X.heap[w.heap.size]? = some (.cells #[.int .i64 p.1.1, .int .i64 p.1.2.1, .slice p.2.a p.2.n p.2.c] 54 (0, 0))
theorem FI.below {v w X Y : World} {s : Sl} {l : List ((Int × Int × List Int) × Sl)} {p : (Int × Int × List Int) × Sl} (h : FI v w X s l p) (hb : Below X.heap.size X Y) : FI v w Y s l p := ⟨h.e.below hb, (hb.block _ (Array.getElem?_eq_some_iff.1 h.b2).1).trans h.b2⟩
def loadD (a : Addr) : Sem Value := loadVar 54 a
theorem loadD_seal (a : Addr) : loadVar 54 a = loadD a := rfl
theorem loadD_run {X : World} {g : Nat} {a b c : Value} (h : X.heap[g]? = some (.cells #[a, b, c] 54 (0, 0))) : (loadD ⟨g, 0, none⟩).run Try.prog X = .ok (.agg #[a, b, c]) X := load_blk h Try.underlying54 rfl (by kernel_rfl)
attribute [local go_sem ↓] loadD_seal
set_option maxHeartbeats 16000000 in
set_option maxRecDepth 20000 in
theorem cl_desc (v w : World) (s : Sl) (l : List ((Int × Int × List Int) × Sl)) (h : EI v w s l) (i : Nat) (hi : i < l.length) (p : (Int × Int × List Int) × Sl) (hp : p ∈ l) :
    Calls Try.prog 66 #[.int .i64 (i : Int), .agg (dEnc p), .pointer (some ⟨v.heap.size, 0, none⟩)] w fun e w' => e = .returned (.bool (descB (l.map (·.1)) i p.1)) ∧ EI v w' s l := by
  have TR : Hid (∀ X, EI v X s l → Calls Try.prog 67 #[.slice s.a s.n s.c, .agg (dEnc p)] X fun e w' => e = .returned (.bool (tagsB (l.map (·.1.1)) p.1)) ∧ Below X.heap.size X w') := fun X hX => tagsRight_any X s l p hX.rd (hX.tg p hp)
  have hsn := h.rd.len
  have hmo := h.rd.most
  have hat := h.rd.at_
  have F0 : Hid (FI v w (w.alloc (.cells #[.int .i64 p.1.1, .int .i64 p.1.2.1, .slice p.2.a p.2.n p.2.c] 54)) s l p) := ⟨h.below (by go_grown), blk_new _ _⟩
  unfold dEnc at TR ⊢
  have hm : (l.map (·.1)).map (·.1) = l.map (·.1.1) := by rw [List.map_map]; rfl
  unfold descB
  rw [hm]
  generalize tagsB (l.map (·.1.1)) p.1 = b7 at *
  have PV : Hid (∀ X, FI v w X s l p → ∀ k, i = k + 1 → ∀ g off, s.a = some ⟨g, off, none⟩ → X.cell? ⟨g, off + k * 3, none⟩ = some (.int .i64 ((l.map (·.1)).getD k (0, 0, [])).1)) := fun X hX k hk g off ha => by
    have hk2 : k < l.length := by omega
    have := hX.e.rd.cell ha (by omega) (j := k * 3 + 0) (u := .int .i64 (l[k]).1.1) (by rw [flat_at dEnc 3 (fun _ => rfl) l k hk2 0 (by omega)]; rfl)
    rw [getD_at _ _ k (by rw [List.length_map]; exact hk2), List.getElem_map]
    exact this
  obtain ⟨⟨ty, sz, tags⟩, ⟨pa, pn, pc⟩⟩ := p
  simp only at F0 TR PV ⊢
  have B2 : Hid (∀ X, FI v w X s l ((ty, sz, tags), ⟨pa, pn, pc⟩) → X.cell? ⟨w.heap.size, 0, none⟩ = some (.int .i64 ty) ∧ X.cell? ⟨w.heap.size, 1, none⟩ = some (.int .i64 sz) ∧ X.cell? ⟨v.heap.size, 0, none⟩ = some (.slice s.a s.n s.c) ∧ (loadD ⟨w.heap.size, 0, none⟩).run Try.prog X = .ok (.agg #[.int .i64 ty, .int .i64 sz, .slice pa pn pc]) X) := fun X hX => ⟨blk_cell hX.b2 0, blk_cell hX.b2 1, blk_cell hX.e.b1 0, loadD_run hX.b2⟩
  have his : i < s.n := by omega
  have hmo2 : s.n ≤ 140737488355328 := by omega
  clear h hm hp hsn hmo
  cases d1 : decide (8 ≤ ty)
  · simp only [Bool.false_and]
    clear hat PV
    obtain ⟨q1, q2, q3, q5⟩ := B2.out _ F0.out
    have HF := hid_of F0.out.e
    clear B2 F0 TR
    go_enter Try.func66, Try.ntmps66
    go_wp2
    go_region
    go_wp2_with fail
    go_ret
    exact ⟨rfl, HF.out.below (bdn (Below.refl _ _) _)⟩
  simp only [Bool.true_and]
  cases d2 : decide (ty < 200)
  · simp only [Bool.false_and]
    clear hat PV
    obtain ⟨q1, q2, q3, q5⟩ := B2.out _ F0.out
    have HF := hid_of F0.out.e
    clear B2 F0 TR
    go_enter Try.func66, Try.ntmps66
    go_wp2
    go_region
    go_wp2_with fail
    go_ret
    exact ⟨rfl, HF.out.below (bdn (Below.refl _ _) _)⟩
  simp only [Bool.true_and]
  cases i with
  | zero =>
    have e3 : decide ((0 : Nat) = 0) = true := rfl
    have z0 : (((0 : Nat) : Int) == 0) = true := rfl
    have z1 : ((0 : Int) == 0) = true := rfl
    rw [e3]
    simp only [Bool.true_or, Bool.true_and]
    clear hat PV
    cases d4 : decide (0 ≤ sz)
    · simp only [Bool.false_and]
      obtain ⟨q1, q2, q3, q5⟩ := B2.out _ F0.out
      have HF := hid_of F0.out.e
      clear B2 F0 TR
      go_enter Try.func66, Try.ntmps66
      go_wp2
      go_region
      go_wp2_with fail
      go_ret
      exact ⟨rfl, HF.out.below (bdn (Below.refl _ _) _)⟩
    simp only [Bool.true_and]
    cases d5 : decide (sz ≤ 16384)
    · simp only [Bool.false_and]
      obtain ⟨q1, q2, q3, q5⟩ := B2.out _ F0.out
      have HF := hid_of F0.out.e
      clear B2 F0 TR
      go_enter Try.func66, Try.ntmps66
      go_wp2
      go_region
      go_wp2_with fail
      go_ret
      exact ⟨rfl, HF.out.below (bdn (Below.refl _ _) _)⟩
    simp only [Bool.true_and]
    have hsz : 0 ≤ sz := of_decide_eq_true d4
    have hmod : sz.tmod 4 = sz % 4 := Int.tmod_eq_emod_of_nonneg hsz
    cases d6 : (sz % 4 == 0)
    · simp only [Bool.false_and]
      obtain ⟨q1, q2, q3, q5⟩ := B2.out _ F0.out
      have HF := hid_of F0.out.e
      clear B2 F0 TR
      go_enter Try.func66, Try.ntmps66
      go_wp2
      go_region
      go_wp2_with fail
      go_ret
      exact ⟨rfl, HF.out.below (bdn (Below.refl _ _) _)⟩
    · simp only [Bool.true_and]
      go_enter Try.func66, Try.ntmps66
      go_wp2
      refine wp_region_held_drew (S := (fun X => FI v w X s l ((ty, sz, tags), ⟨pa, pn, pc⟩))) (by kernel_rfl) (F0.out.below (Below.refl _ _).drew) (fun hHeld => ?_)
      refine wpAnyH_take (i := 0) (v := ?_) rfl (by kernel_rfl) (by kernel_rfl) (by kernel_rfl) (fun _ _ _ h => h) (Or.inl ⟨by kernel_rfl, ?y0f0⟩) hHeld ?r0f0
      case y0f0 => (intro wq hSw; go_simp; try rfl)
      simp only [Act.put, List.setIfInBounds_toArray, List.set_cons_zero, List.set_cons_succ]
      refine wpAnyH_take (i := 1) (v := ?_) rfl (by kernel_rfl) (by kernel_rfl) (by kernel_rfl) (fun _ _ _ h => h) (Or.inl ⟨by kernel_rfl, ?y1f0⟩) hHeld ?r1f0
      case y1f0 => (intro wq hSw; have q1 := (B2.out wq hSw).1; go_simp; try rfl)
      simp only [Act.put, List.setIfInBounds_toArray, List.set_cons_zero, List.set_cons_succ]
      refine wpAnyH_take (i := 2) (v := ?_) rfl (by kernel_rfl) (by kernel_rfl) (by kernel_rfl) (fun _ _ _ h => h) (Or.inl ⟨by kernel_rfl, ?y2f0⟩) hHeld ?r2f0
      case y2f0 => (intro wq hSw; go_simp; try rfl)
      simp only [Act.put, List.setIfInBounds_toArray, List.set_cons_zero, List.set_cons_succ]
      refine wpAnyH_take (i := 3) (v := ?_) rfl (by kernel_rfl) (by kernel_rfl) (by kernel_rfl) (fun _ _ _ h => h) (Or.inl ⟨by kernel_rfl, ?y3f0⟩) hHeld ?r3f0
      case y3f0 => (intro wq hSw; go_simp; try rfl)
      simp only [Act.put, List.setIfInBounds_toArray, List.set_cons_zero, List.set_cons_succ]
      refine wpAnyH_take (i := 4) (v := ?_) rfl (by kernel_rfl) (by kernel_rfl) (by kernel_rfl) (fun _ _ _ h => h) (Or.inl ⟨by kernel_rfl, ?y4f0⟩) hHeld ?r4f0
      case y4f0 => (intro wq hSw; go_simp; try rfl)
      simp only [Act.put, List.setIfInBounds_toArray, List.set_cons_zero, List.set_cons_succ]
      refine wpAnyH_take (i := 5) (v := ?_) rfl (by kernel_rfl) (by kernel_rfl) (by kernel_rfl) (fun _ _ _ h => h) (Or.inl ⟨by kernel_rfl, ?y5f0⟩) hHeld ?r5f0
      case y5f0 => (intro wq hSw; have q1 := (B2.out wq hSw).1; go_simp; try rfl)
      simp only [Act.put, List.setIfInBounds_toArray, List.set_cons_zero, List.set_cons_succ]
      refine wpAnyH_take (i := 6) (v := ?_) rfl (by kernel_rfl) (by kernel_rfl) (by kernel_rfl) (fun _ _ _ h => h) (Or.inl ⟨by kernel_rfl, ?y6f0⟩) hHeld ?r6f0
      case y6f0 => (intro wq hSw; go_simp; try rfl)
      simp only [Act.put, List.setIfInBounds_toArray, List.set_cons_zero, List.set_cons_succ]
      refine wpAnyH_take (i := 7) (v := ?_) rfl (by kernel_rfl) (by kernel_rfl) (by kernel_rfl) (fun _ _ _ h => h) (Or.inl ⟨by kernel_rfl, ?y7f0⟩) hHeld ?r7f0
      case y7f0 => (intro wq hSw; go_simp; try rfl)
      simp only [Act.put, List.setIfInBounds_toArray, List.set_cons_zero, List.set_cons_succ]
      refine wpAnyH_take (i := 8) (v := ?_) rfl (by kernel_rfl) (by kernel_rfl) (by kernel_rfl) (fun _ _ _ h => h) (Or.inl ⟨by kernel_rfl, ?y8f0⟩) hHeld ?r8f0
      case y8f0 => (intro wq hSw; go_simp; try rfl)
      simp only [Act.put, List.setIfInBounds_toArray, List.set_cons_zero, List.set_cons_succ]
      refine wpAnyH_take (i := 9) (v := ?_) rfl (by kernel_rfl) (by kernel_rfl) (by kernel_rfl) (fun _ _ _ h => h) (Or.inl ⟨by kernel_rfl, ?y9f0⟩) hHeld ?r9f0
      case y9f0 => (intro wq hSw; go_simp; try rfl)
      simp only [Act.put, List.setIfInBounds_toArray, List.set_cons_zero, List.set_cons_succ]
      refine wpAnyH_take (i := 10) (v := ?_) rfl (by kernel_rfl) (by kernel_rfl) (by kernel_rfl) (fun _ _ _ h => h) (Or.inl ⟨by kernel_rfl, ?y10f0⟩) hHeld ?r10f0
      case y10f0 => (intro wq hSw; go_simp; try rfl)
      simp only [Act.put, List.setIfInBounds_toArray, List.set_cons_zero, List.set_cons_succ]
      refine wpAnyH_take (i := 11) (v := ?_) rfl (by kernel_rfl) (by kernel_rfl) (by kernel_rfl) (fun _ _ _ h => h) (Or.inl ⟨by kernel_rfl, ?y11f0⟩) hHeld ?r11f0
      case y11f0 => (intro wq hSw; go_simp; try rfl)
      simp only [Act.put, List.setIfInBounds_toArray, List.set_cons_zero, List.set_cons_succ]
      refine wpAnyH_take (i := 12) (v := undef) rfl (by kernel_rfl) (by kernel_rfl) (by kernel_rfl) (fun _ _ _ h => h) (Or.inr ⟨by kernel_rfl, rfl⟩) hHeld ?r12f0
      simp only [Act.put, List.setIfInBounds_toArray, List.set_cons_zero, List.set_cons_succ]
      refine wpAnyH_take (i := 13) (v := undef) rfl (by kernel_rfl) (by kernel_rfl) (by kernel_rfl) (fun _ _ _ h => h) (Or.inr ⟨by kernel_rfl, rfl⟩) hHeld ?r13f0
      simp only [Act.put, List.setIfInBounds_toArray, List.set_cons_zero, List.set_cons_succ]
      refine wpAnyH_take (i := 14) (v := undef) rfl (by kernel_rfl) (by kernel_rfl) (by kernel_rfl) (fun _ _ _ h => h) (Or.inr ⟨by kernel_rfl, rfl⟩) hHeld ?r14f0
      simp only [Act.put, List.setIfInBounds_toArray, List.set_cons_zero, List.set_cons_succ]
      refine wpAnyH_take (i := 15) (v := undef) rfl (by kernel_rfl) (by kernel_rfl) (by kernel_rfl) (fun _ _ _ h => h) (Or.inr ⟨by kernel_rfl, rfl⟩) hHeld ?r15f0
      simp only [Act.put, List.setIfInBounds_toArray, List.set_cons_zero, List.set_cons_succ]
      refine wpAnyH_take (i := 16) (v := undef) rfl (by kernel_rfl) (by kernel_rfl) (by kernel_rfl) (fun _ _ _ h => h) (Or.inr ⟨by kernel_rfl, rfl⟩) hHeld ?r16f0
      simp only [Act.put, List.setIfInBounds_toArray, List.set_cons_zero, List.set_cons_succ]
      refine wpAnyH_take (i := 17) (v := undef) rfl (by kernel_rfl) (by kernel_rfl) (by kernel_rfl) (fun _ _ _ h => h) (Or.inr ⟨by kernel_rfl, rfl⟩) hHeld ?r17f0
      simp only [Act.put, List.setIfInBounds_toArray, List.set_cons_zero, List.set_cons_succ]
      refine wpAnyH_take (i := 18) (v := undef) rfl (by kernel_rfl) (by kernel_rfl) (by kernel_rfl) (fun _ _ _ h => h) (Or.inr ⟨by kernel_rfl, rfl⟩) hHeld ?r18f0
      simp only [Act.put, List.setIfInBounds_toArray, List.set_cons_zero, List.set_cons_succ]
      refine wpAnyH_take (i := 19) (v := undef) rfl (by kernel_rfl) (by kernel_rfl) (by kernel_rfl) (fun _ _ _ h => h) (Or.inr ⟨by kernel_rfl, rfl⟩) hHeld ?r19f0
      simp only [Act.put, List.setIfInBounds_toArray, List.set_cons_zero, List.set_cons_succ]
      refine wpAnyH_take (i := 20) (v := undef) rfl (by kernel_rfl) (by kernel_rfl) (by kernel_rfl) (fun _ _ _ h => h) (Or.inr ⟨by kernel_rfl, rfl⟩) hHeld ?r20f0
      simp only [Act.put, List.setIfInBounds_toArray, List.set_cons_zero, List.set_cons_succ]
      refine wpAnyH_take (i := 21) (v := ?_) rfl (by kernel_rfl) (by kernel_rfl) (by kernel_rfl) (fun _ _ _ h => h) (Or.inl ⟨by kernel_rfl, ?y21f0⟩) hHeld ?r21f0
      case y21f0 => (intro wq hSw; go_simp; try rfl)
      simp only [Act.put, List.setIfInBounds_toArray, List.set_cons_zero, List.set_cons_succ]
      refine wpAnyH_take (i := 22) (v := ?_) rfl (by kernel_rfl) (by kernel_rfl) (by kernel_rfl) (fun _ _ _ h => h) (Or.inl ⟨by kernel_rfl, ?y22f0⟩) hHeld ?r22f0
      case y22f0 => (intro wq hSw; go_simp; try rfl)
      simp only [Act.put, List.setIfInBounds_toArray, List.set_cons_zero, List.set_cons_succ]
      refine wpAnyH_take (i := 23) (v := ?_) rfl (by kernel_rfl) (by kernel_rfl) (by kernel_rfl) (fun _ _ _ h => h) (Or.inl ⟨by kernel_rfl, ?y23f0⟩) hHeld ?r23f0
      case y23f0 => (intro wq hSw; go_simp; try rfl)
      simp only [Act.put, List.setIfInBounds_toArray, List.set_cons_zero, List.set_cons_succ]
      refine wpAnyH_take (i := 24) (v := ?_) rfl (by kernel_rfl) (by kernel_rfl) (by kernel_rfl) (fun _ _ _ h => h) (Or.inl ⟨by kernel_rfl, ?y24f0⟩) hHeld ?r24f0
      case y24f0 => (intro wq hSw; go_simp; try rfl)
      simp only [Act.put, List.setIfInBounds_toArray, List.set_cons_zero, List.set_cons_succ]
      refine wpAnyH_take (i := 25) (v := ?_) rfl (by kernel_rfl) (by kernel_rfl) (by kernel_rfl) (fun _ _ _ h => h) (Or.inl ⟨by kernel_rfl, ?y25f0⟩) hHeld ?r25f0
      case y25f0 => (intro wq hSw; have q2 := (B2.out wq hSw).2.1; go_simp; try rfl)
      simp only [Act.put, List.setIfInBounds_toArray, List.set_cons_zero, List.set_cons_succ]
      refine wpAnyH_take (i := 26) (v := ?_) rfl (by kernel_rfl) (by kernel_rfl) (by kernel_rfl) (fun _ _ _ h => h) (Or.inl ⟨by kernel_rfl, ?y26f0⟩) hHeld ?r26f0
      case y26f0 => (intro wq hSw; go_simp; try rfl)
      simp only [Act.put, List.setIfInBounds_toArray, List.set_cons_zero, List.set_cons_succ]
      refine wpAnyH_take (i := 27) (v := ?_) rfl (by kernel_rfl) (by kernel_rfl) (by kernel_rfl) (fun _ _ _ h => h) (Or.inl ⟨by kernel_rfl, ?y27f0⟩) hHeld ?r27f0
      case y27f0 => (intro wq hSw; go_simp; try rfl)
      simp only [Act.put, List.setIfInBounds_toArray, List.set_cons_zero, List.set_cons_succ]
      refine wpAnyH_take (i := 28) (v := ?_) rfl (by kernel_rfl) (by kernel_rfl) (by kernel_rfl) (fun _ _ _ h => h) (Or.inl ⟨by kernel_rfl, ?y28f0⟩) hHeld ?r28f0
      case y28f0 => (intro wq hSw; go_simp; try rfl)
      simp only [Act.put, List.setIfInBounds_toArray, List.set_cons_zero, List.set_cons_succ]
      refine wpAnyH_take (i := 29) (v := ?_) rfl (by kernel_rfl) (by kernel_rfl) (by kernel_rfl) (fun _ _ _ h => h) (Or.inl ⟨by kernel_rfl, ?y29f0⟩) hHeld ?r29f0
      case y29f0 => (intro wq hSw; go_simp; try rfl)
      simp only [Act.put, List.setIfInBounds_toArray, List.set_cons_zero, List.set_cons_succ]
      refine wpAnyH_take (i := 30) (v := ?_) rfl (by kernel_rfl) (by kernel_rfl) (by kernel_rfl) (fun _ _ _ h => h) (Or.inl ⟨by kernel_rfl, ?y30f0⟩) hHeld ?r30f0
      case y30f0 => (intro wq hSw; have q2 := (B2.out wq hSw).2.1; go_simp; try rfl)
      simp only [Act.put, List.setIfInBounds_toArray, List.set_cons_zero, List.set_cons_succ]
      refine wpAnyH_take (i := 31) (v := ?_) rfl (by kernel_rfl) (by kernel_rfl) (by kernel_rfl) (fun _ _ _ h => h) (Or.inl ⟨by kernel_rfl, ?y31f0⟩) hHeld ?r31f0
      case y31f0 => (intro wq hSw; go_simp; try rfl)
      simp only [Act.put, List.setIfInBounds_toArray, List.set_cons_zero, List.set_cons_succ]
      refine wpAnyH_take (i := 32) (v := ?_) rfl (by kernel_rfl) (by kernel_rfl) (by kernel_rfl) (fun _ _ _ h => h) (Or.inl ⟨by kernel_rfl, ?y32f0⟩) hHeld ?r32f0
      case y32f0 => (intro wq hSw; go_simp; try rfl)
      simp only [Act.put, List.setIfInBounds_toArray, List.set_cons_zero, List.set_cons_succ]
      refine wpAnyH_take (i := 33) (v := ?_) rfl (by kernel_rfl) (by kernel_rfl) (by kernel_rfl) (fun _ _ _ h => h) (Or.inl ⟨by kernel_rfl, ?y33f0⟩) hHeld ?r33f0
      case y33f0 => (intro wq hSw; go_simp; try rfl)
      simp only [Act.put, List.setIfInBounds_toArray, List.set_cons_zero, List.set_cons_succ]
      refine wpAnyH_take (i := 34) (v := ?_) rfl (by kernel_rfl) (by kernel_rfl) (by kernel_rfl) (fun _ _ _ h => h) (Or.inl ⟨by kernel_rfl, ?y34f0⟩) hHeld ?r34f0
      case y34f0 => (intro wq hSw; go_simp; try rfl)
      simp only [Act.put, List.setIfInBounds_toArray, List.set_cons_zero, List.set_cons_succ]
      refine wpAnyH_take (i := 35) (v := ?_) rfl (by kernel_rfl) (by kernel_rfl) (by kernel_rfl) (fun _ _ _ h => h) (Or.inl ⟨by kernel_rfl, ?y35f0⟩) hHeld ?r35f0
      case y35f0 => (intro wq hSw; have q2 := (B2.out wq hSw).2.1; go_simp; try rfl)
      simp only [Act.put, List.setIfInBounds_toArray, List.set_cons_zero, List.set_cons_succ]
      refine wpAnyH_take (i := 36) (v := ?_) rfl (by kernel_rfl) (by kernel_rfl) (by kernel_rfl) (fun _ _ _ h => h) (Or.inl ⟨by kernel_rfl, ?y36f0⟩) hHeld ?r36f0
      case y36f0 => (intro wq hSw; go_simp; try rfl)
      simp only [Act.put, List.setIfInBounds_toArray, List.set_cons_zero, List.set_cons_succ]
      refine wpAnyH_take (i := 37) (v := ?_) rfl (by kernel_rfl) (by kernel_rfl) (by kernel_rfl) (fun _ _ _ h => h) (Or.inl ⟨by kernel_rfl, ?y37f0⟩) hHeld ?r37f0
      case y37f0 => (intro wq hSw; go_simp; try rfl)
      simp only [Act.put, List.setIfInBounds_toArray, List.set_cons_zero, List.set_cons_succ]
      refine wpAnyH_take (i := 38) (v := ?_) rfl (by kernel_rfl) (by kernel_rfl) (by kernel_rfl) (fun _ _ _ h => h) (Or.inl ⟨by kernel_rfl, ?y38f0⟩) hHeld ?r38f0
      case y38f0 => (intro wq hSw; go_simp; try rfl)
      simp only [Act.put, List.setIfInBounds_toArray, List.set_cons_zero, List.set_cons_succ]
      refine wpAnyH_take (i := 39) (v := ?_) rfl (by kernel_rfl) (by kernel_rfl) (by kernel_rfl) (fun _ _ _ h => h) (Or.inl ⟨by kernel_rfl, ?y39f0⟩) hHeld ?r39f0
      case y39f0 => (intro wq hSw; go_simp; try rfl)
      simp only [Act.put, List.setIfInBounds_toArray, List.set_cons_zero, List.set_cons_succ]
      refine wpAnyH_take (i := 40) (v := ?_) rfl (by kernel_rfl) (by kernel_rfl) (by kernel_rfl) (fun _ _ _ h => h) (Or.inl ⟨by kernel_rfl, ?y40f0⟩) hHeld ?r40f0
      case y40f0 => (intro wq hSw; have q3 := (B2.out wq hSw).2.2.1; go_simp; try rfl)
      simp only [Act.put, List.setIfInBounds_toArray, List.set_cons_zero, List.set_cons_succ]
      refine wpAnyH_take (i := 41) (v := ?_) rfl (by kernel_rfl) (by kernel_rfl) (by kernel_rfl) (fun _ _ _ h => h) (Or.inl ⟨by kernel_rfl, ?y41f0⟩) hHeld ?r41f0
      case y41f0 => (intro wq hSw; have q5 := (B2.out wq hSw).2.2.2; go_simp; try rfl)
      simp only [Act.put, List.setIfInBounds_toArray, List.set_cons_zero, List.set_cons_succ]
      refine wpAnyH_ready (rs := [42]) (by kernel_rfl) (by simp) ?_
      refine AllReadyH.cons rfl (fun K hK => ?_) AllReadyH.nil
      go_simp
      go_wp2_with (go_at_call 67; refine (TR.out _ hHeld.e).mono ?_; rintro e w5 ⟨rfl, hb5⟩; have h5 := hHeld.below hb5)
      refine hK.out _ _ h5 (fun _ => ?_)
      clear hK K
      refine wpAnyH_ready (rs := [43]) (by kernel_rfl) (by simp) ?_
      refine AllReadyH.cons rfl (fun K hK => ?_) AllReadyH.nil
      go_simp
      refine hK.out _ _ h5 (fun _ => ?_)
      clear hK K
      refine wpAnyH_ready (rs := [44]) (by kernel_rfl) (by simp) ?_
      refine AllReadyH.cons rfl (fun K hK => ?_) AllReadyH.nil
      go_simp
      refine hK.out _ _ h5 (fun _ => ?_)
      clear hK K
      refine wpAnyH_done (by kernel_rfl) ?_ _
      go_wp2_with fail
      go_ret
      exact ⟨rfl, h5.e⟩
  | succ k =>
    have e3 : decide (k + 1 = 0) = false := by simp
    have z0 : (((k + 1 : Nat) : Int) == 0) = false := by simp; omega
    have z1 : ((k : Int) + 1 == 0) = false := by simp; omega
    have z2 : ¬ ((k : Int) + 1 = 0) := by omega
    rw [e3, Nat.add_sub_cancel]
    simp only [Bool.false_or]
    have hl0 : l.length ≠ 0 := by omega
    rcases hat with h0 | ⟨g, off, ha, hgl, _⟩
    · exact absurd h0 hl0
    have PW : Hid (∀ X, FI v w X s l ((ty, sz, tags), ⟨pa, pn, pc⟩) → X.cell? ⟨g, off + k * 3, none⟩ = some (.int .i64 ((l.map (·.1)).getD k (0, 0, [])).1)) := fun X hX => PV.out X hX k rfl g off ha
    rw [ha] at B2 TR
    have e1 : IntKind.i64.wrap (((k + 1 : Nat) : Int) - 1) = (k : Int) := by rw [IntWalk.i64_left, IntWalk.wrap64_in] <;> omega
    have e2 : IntKind.i64.wrap (k : Int) = (k : Int) := by rw [IntWalk.i64_left, IntWalk.wrap64_in] <;> omega
    have j0 : (0 : Int) ≤ (k : Int) := by omega
    have j1 : (k : Int) < (s.n : Int) := by omega
    have j2 : k < s.n := by omega
    generalize ((l.map (·.1)).getD k (0, 0, [])).1 = y at PW ⊢
    clear PV
    cases d3 : decide (y < ty)
    · simp only [Bool.false_and]
      obtain ⟨q1, q2, q3, q5⟩ := B2.out _ F0.out
      have q4 := PW.out _ F0.out
      clear PW
      have HF := hid_of F0.out.e
      clear B2 F0 TR
      go_enter Try.func66, Try.ntmps66
      go_wp2
      go_region
      go_wp2_with fail
      go_ret
      exact ⟨rfl, HF.out.below (bdn (Below.refl _ _) _)⟩
    simp only [Bool.true_and]
    cases d4 : decide (0 ≤ sz)
    · simp only [Bool.false_and]
      obtain ⟨q1, q2, q3, q5⟩ := B2.out _ F0.out
      have q4 := PW.out _ F0.out
      clear PW
      have HF := hid_of F0.out.e
      clear B2 F0 TR
      go_enter Try.func66, Try.ntmps66
      go_wp2
      go_region
      go_wp2_with fail
      go_ret
      exact ⟨rfl, HF.out.below (bdn (Below.refl _ _) _)⟩
    simp only [Bool.true_and]
    cases d5 : decide (sz ≤ 16384)
    · simp only [Bool.false_and]
      obtain ⟨q1, q2, q3, q5⟩ := B2.out _ F0.out
      have q4 := PW.out _ F0.out
      clear PW
      have HF := hid_of F0.out.e
      clear B2 F0 TR
      go_enter Try.func66, Try.ntmps66
      go_wp2
      go_region
      go_wp2_with fail
      go_ret
      exact ⟨rfl, HF.out.below (bdn (Below.refl _ _) _)⟩
    simp only [Bool.true_and]
    have hsz : 0 ≤ sz := of_decide_eq_true d4
    have hmod : sz.tmod 4 = sz % 4 := Int.tmod_eq_emod_of_nonneg hsz
    cases d6 : (sz % 4 == 0)
    · simp only [Bool.false_and]
      obtain ⟨q1, q2, q3, q5⟩ := B2.out _ F0.out
      have q4 := PW.out _ F0.out
      clear PW
      have HF := hid_of F0.out.e
      clear B2 F0 TR
      go_enter Try.func66, Try.ntmps66
      go_wp2
      go_region
      go_wp2_with fail
      go_ret
      exact ⟨rfl, HF.out.below (bdn (Below.refl _ _) _)⟩
    · simp only [Bool.true_and]
      go_enter Try.func66, Try.ntmps66
      go_wp2
      refine wp_region_held_drew (S := (fun X => FI v w X s l ((ty, sz, tags), ⟨pa, pn, pc⟩))) (by kernel_rfl) (F0.out.below (Below.refl _ _).drew) (fun hHeld => ?_)
      refine wpAnyH_take (i := 0) (v := ?_) rfl (by kernel_rfl) (by kernel_rfl) (by kernel_rfl) (fun _ _ _ h => h) (Or.inl ⟨by kernel_rfl, ?y0f1⟩) hHeld ?r0f1
      case y0f1 => (intro wq hSw; go_simp; try rfl)
      simp only [Act.put, List.setIfInBounds_toArray, List.set_cons_zero, List.set_cons_succ]
      refine wpAnyH_take (i := 1) (v := ?_) rfl (by kernel_rfl) (by kernel_rfl) (by kernel_rfl) (fun _ _ _ h => h) (Or.inl ⟨by kernel_rfl, ?y1f1⟩) hHeld ?r1f1
      case y1f1 => (intro wq hSw; have q1 := (B2.out wq hSw).1; go_simp; try rfl)
      simp only [Act.put, List.setIfInBounds_toArray, List.set_cons_zero, List.set_cons_succ]
      refine wpAnyH_take (i := 2) (v := ?_) rfl (by kernel_rfl) (by kernel_rfl) (by kernel_rfl) (fun _ _ _ h => h) (Or.inl ⟨by kernel_rfl, ?y2f1⟩) hHeld ?r2f1
      case y2f1 => (intro wq hSw; go_simp; try rfl)
      simp only [Act.put, List.setIfInBounds_toArray, List.set_cons_zero, List.set_cons_succ]
      refine wpAnyH_take (i := 3) (v := ?_) rfl (by kernel_rfl) (by kernel_rfl) (by kernel_rfl) (fun _ _ _ h => h) (Or.inl ⟨by kernel_rfl, ?y3f1⟩) hHeld ?r3f1
      case y3f1 => (intro wq hSw; go_simp; try rfl)
      simp only [Act.put, List.setIfInBounds_toArray, List.set_cons_zero, List.set_cons_succ]
      refine wpAnyH_take (i := 4) (v := ?_) rfl (by kernel_rfl) (by kernel_rfl) (by kernel_rfl) (fun _ _ _ h => h) (Or.inl ⟨by kernel_rfl, ?y4f1⟩) hHeld ?r4f1
      case y4f1 => (intro wq hSw; go_simp; try rfl)
      simp only [Act.put, List.setIfInBounds_toArray, List.set_cons_zero, List.set_cons_succ]
      refine wpAnyH_take (i := 5) (v := ?_) rfl (by kernel_rfl) (by kernel_rfl) (by kernel_rfl) (fun _ _ _ h => h) (Or.inl ⟨by kernel_rfl, ?y5f1⟩) hHeld ?r5f1
      case y5f1 => (intro wq hSw; have q1 := (B2.out wq hSw).1; go_simp; try rfl)
      simp only [Act.put, List.setIfInBounds_toArray, List.set_cons_zero, List.set_cons_succ]
      refine wpAnyH_take (i := 6) (v := ?_) rfl (by kernel_rfl) (by kernel_rfl) (by kernel_rfl) (fun _ _ _ h => h) (Or.inl ⟨by kernel_rfl, ?y6f1⟩) hHeld ?r6f1
      case y6f1 => (intro wq hSw; go_simp; try rfl)
      simp only [Act.put, List.setIfInBounds_toArray, List.set_cons_zero, List.set_cons_succ]
      refine wpAnyH_take (i := 7) (v := ?_) rfl (by kernel_rfl) (by kernel_rfl) (by kernel_rfl) (fun _ _ _ h => h) (Or.inl ⟨by kernel_rfl, ?y7f1⟩) hHeld ?r7f1
      case y7f1 => (intro wq hSw; go_simp; try rfl)
      simp only [Act.put, List.setIfInBounds_toArray, List.set_cons_zero, List.set_cons_succ]
      refine wpAnyH_take (i := 8) (v := ?_) rfl (by kernel_rfl) (by kernel_rfl) (by kernel_rfl) (fun _ _ _ h => h) (Or.inl ⟨by kernel_rfl, ?y8f1⟩) hHeld ?r8f1
      case y8f1 => (intro wq hSw; go_simp; try rfl)
      simp only [Act.put, List.setIfInBounds_toArray, List.set_cons_zero, List.set_cons_succ]
      refine wpAnyH_take (i := 9) (v := ?_) rfl (by kernel_rfl) (by kernel_rfl) (by kernel_rfl) (fun _ _ _ h => h) (Or.inl ⟨by kernel_rfl, ?y9f1⟩) hHeld ?r9f1
      case y9f1 => (intro wq hSw; go_simp; try rfl)
      simp only [Act.put, List.setIfInBounds_toArray, List.set_cons_zero, List.set_cons_succ]
      refine wpAnyH_take (i := 10) (v := ?_) rfl (by kernel_rfl) (by kernel_rfl) (by kernel_rfl) (fun _ _ _ h => h) (Or.inl ⟨by kernel_rfl, ?y10f1⟩) hHeld ?r10f1
      case y10f1 => (intro wq hSw; go_simp; try rfl)
      simp only [Act.put, List.setIfInBounds_toArray, List.set_cons_zero, List.set_cons_succ]
      refine wpAnyH_take (i := 11) (v := ?_) rfl (by kernel_rfl) (by kernel_rfl) (by kernel_rfl) (fun _ _ _ h => h) (Or.inl ⟨by kernel_rfl, ?y11f1⟩) hHeld ?r11f1
      case y11f1 => (intro wq hSw; go_simp; try rfl)
      simp only [Act.put, List.setIfInBounds_toArray, List.set_cons_zero, List.set_cons_succ]
      refine wpAnyH_take (i := 12) (v := ?_) rfl (by kernel_rfl) (by kernel_rfl) (by kernel_rfl) (fun _ _ _ h => h) (Or.inl ⟨by kernel_rfl, ?y12f1⟩) hHeld ?r12f1
      case y12f1 => (intro wq hSw; have q3 := (B2.out wq hSw).2.2.1; go_simp; try rfl)
      simp only [Act.put, List.setIfInBounds_toArray, List.set_cons_zero, List.set_cons_succ]
      refine wpAnyH_take (i := 13) (v := ?_) rfl (by kernel_rfl) (by kernel_rfl) (by kernel_rfl) (fun _ _ _ h => h) (Or.inl ⟨by kernel_rfl, ?y13f1⟩) hHeld ?r13f1
      case y13f1 => (intro wq hSw; go_simp; try rfl)
      simp only [Act.put, List.setIfInBounds_toArray, List.set_cons_zero, List.set_cons_succ]
      refine wpAnyH_take (i := 14) (v := ?_) rfl (by kernel_rfl) (by kernel_rfl) (by kernel_rfl) (fun _ _ _ h => h) (Or.inl ⟨by kernel_rfl, ?y14f1⟩) hHeld ?r14f1
      case y14f1 => (intro wq hSw; go_simp; try rfl)
      simp only [Act.put, List.setIfInBounds_toArray, List.set_cons_zero, List.set_cons_succ]
      refine wpAnyH_take (i := 15) (v := ?_) rfl (by kernel_rfl) (by kernel_rfl) (by kernel_rfl) (fun _ _ _ h => h) (Or.inl ⟨by kernel_rfl, ?y15f1⟩) hHeld ?r15f1
      case y15f1 => (intro wq hSw; go_simp; try rfl)
      simp only [Act.put, List.setIfInBounds_toArray, List.set_cons_zero, List.set_cons_succ]
      refine wpAnyH_take (i := 16) (v := ?_) rfl (by kernel_rfl) (by kernel_rfl) (by kernel_rfl) (fun _ _ _ h => h) (Or.inl ⟨by kernel_rfl, ?y16f1⟩) hHeld ?r16f1
      case y16f1 => (intro wq hSw; go_simp; try rfl)
      simp only [Act.put, List.setIfInBounds_toArray, List.set_cons_zero, List.set_cons_succ]
      refine wpAnyH_take (i := 17) (v := ?_) rfl (by kernel_rfl) (by kernel_rfl) (by kernel_rfl) (fun _ _ _ h => h) (Or.inl ⟨by kernel_rfl, ?y17f1⟩) hHeld ?r17f1
      case y17f1 => (intro wq hSw; have q4 := PW.out wq hSw; go_simp; try rfl)
      simp only [Act.put, List.setIfInBounds_toArray, List.set_cons_zero, List.set_cons_succ]
      refine wpAnyH_take (i := 18) (v := ?_) rfl (by kernel_rfl) (by kernel_rfl) (by kernel_rfl) (fun _ _ _ h => h) (Or.inl ⟨by kernel_rfl, ?y18f1⟩) hHeld ?r18f1
      case y18f1 => (intro wq hSw; go_simp; try rfl)
      simp only [Act.put, List.setIfInBounds_toArray, List.set_cons_zero, List.set_cons_succ]
      refine wpAnyH_take (i := 19) (v := ?_) rfl (by kernel_rfl) (by kernel_rfl) (by kernel_rfl) (fun _ _ _ h => h) (Or.inl ⟨by kernel_rfl, ?y19f1⟩) hHeld ?r19f1
      case y19f1 => (intro wq hSw; have q1 := (B2.out wq hSw).1; go_simp; try rfl)
      simp only [Act.put, List.setIfInBounds_toArray, List.set_cons_zero, List.set_cons_succ]
      refine wpAnyH_take (i := 20) (v := ?_) rfl (by kernel_rfl) (by kernel_rfl) (by kernel_rfl) (fun _ _ _ h => h) (Or.inl ⟨by kernel_rfl, ?y20f1⟩) hHeld ?r20f1
      case y20f1 => (intro wq hSw; go_simp; try rfl)
      simp only [Act.put, List.setIfInBounds_toArray, List.set_cons_zero, List.set_cons_succ]
      refine wpAnyH_take (i := 21) (v := ?_) rfl (by kernel_rfl) (by kernel_rfl) (by kernel_rfl) (fun _ _ _ h => h) (Or.inl ⟨by kernel_rfl, ?y21f1⟩) hHeld ?r21f1
      case y21f1 => (intro wq hSw; go_simp; try rfl)
      simp only [Act.put, List.setIfInBounds_toArray, List.set_cons_zero, List.set_cons_succ]
      refine wpAnyH_take (i := 22) (v := ?_) rfl (by kernel_rfl) (by kernel_rfl) (by kernel_rfl) (fun _ _ _ h => h) (Or.inl ⟨by kernel_rfl, ?y22f1⟩) hHeld ?r22f1
      case y22f1 => (intro wq hSw; go_simp; try rfl)
      simp only [Act.put, List.setIfInBounds_toArray, List.set_cons_zero, List.set_cons_succ]
      refine wpAnyH_take (i := 23) (v := ?_) rfl (by kernel_rfl) (by kernel_rfl) (by kernel_rfl) (fun _ _ _ h => h) (Or.inl ⟨by kernel_rfl, ?y23f1⟩) hHeld ?r23f1
      case y23f1 => (intro wq hSw; go_simp; try rfl)
      simp only [Act.put, List.setIfInBounds_toArray, List.set_cons_zero, List.set_cons_succ]
      refine wpAnyH_take (i := 24) (v := ?_) rfl (by kernel_rfl) (by kernel_rfl) (by kernel_rfl) (fun _ _ _ h => h) (Or.inl ⟨by kernel_rfl, ?y24f1⟩) hHeld ?r24f1
      case y24f1 => (intro wq hSw; go_simp; try rfl)
      simp only [Act.put, List.setIfInBounds_toArray, List.set_cons_zero, List.set_cons_succ]
      refine wpAnyH_take (i := 25) (v := ?_) rfl (by kernel_rfl) (by kernel_rfl) (by kernel_rfl) (fun _ _ _ h => h) (Or.inl ⟨by kernel_rfl, ?y25f1⟩) hHeld ?r25f1
      case y25f1 => (intro wq hSw; have q2 := (B2.out wq hSw).2.1; go_simp; try rfl)
      simp only [Act.put, List.setIfInBounds_toArray, List.set_cons_zero, List.set_cons_succ]
      refine wpAnyH_take (i := 26) (v := ?_) rfl (by kernel_rfl) (by kernel_rfl) (by kernel_rfl) (fun _ _ _ h => h) (Or.inl ⟨by kernel_rfl, ?y26f1⟩) hHeld ?r26f1
      case y26f1 => (intro wq hSw; go_simp; try rfl)
      simp only [Act.put, List.setIfInBounds_toArray, List.set_cons_zero, List.set_cons_succ]
      refine wpAnyH_take (i := 27) (v := ?_) rfl (by kernel_rfl) (by kernel_rfl) (by kernel_rfl) (fun _ _ _ h => h) (Or.inl ⟨by kernel_rfl, ?y27f1⟩) hHeld ?r27f1
      case y27f1 => (intro wq hSw; go_simp; try rfl)
      simp only [Act.put, List.setIfInBounds_toArray, List.set_cons_zero, List.set_cons_succ]
      refine wpAnyH_take (i := 28) (v := ?_) rfl (by kernel_rfl) (by kernel_rfl) (by kernel_rfl) (fun _ _ _ h => h) (Or.inl ⟨by kernel_rfl, ?y28f1⟩) hHeld ?r28f1
      case y28f1 => (intro wq hSw; go_simp; try rfl)
      simp only [Act.put, List.setIfInBounds_toArray, List.set_cons_zero, List.set_cons_succ]
      refine wpAnyH_take (i := 29) (v := ?_) rfl (by kernel_rfl) (by kernel_rfl) (by kernel_rfl) (fun _ _ _ h => h) (Or.inl ⟨by kernel_rfl, ?y29f1⟩) hHeld ?r29f1
      case y29f1 => (intro wq hSw; go_simp; try rfl)
      simp only [Act.put, List.setIfInBounds_toArray, List.set_cons_zero, List.set_cons_succ]
      refine wpAnyH_take (i := 30) (v := ?_) rfl (by kernel_rfl) (by kernel_rfl) (by kernel_rfl) (fun _ _ _ h => h) (Or.inl ⟨by kernel_rfl, ?y30f1⟩) hHeld ?r30f1
      case y30f1 => (intro wq hSw; have q2 := (B2.out wq hSw).2.1; go_simp; try rfl)
      simp only [Act.put, List.setIfInBounds_toArray, List.set_cons_zero, List.set_cons_succ]
      refine wpAnyH_take (i := 31) (v := ?_) rfl (by kernel_rfl) (by kernel_rfl) (by kernel_rfl) (fun _ _ _ h => h) (Or.inl ⟨by kernel_rfl, ?y31f1⟩) hHeld ?r31f1
      case y31f1 => (intro wq hSw; go_simp; try rfl)
      simp only [Act.put, List.setIfInBounds_toArray, List.set_cons_zero, List.set_cons_succ]
      refine wpAnyH_take (i := 32) (v := ?_) rfl (by kernel_rfl) (by kernel_rfl) (by kernel_rfl) (fun _ _ _ h => h) (Or.inl ⟨by kernel_rfl, ?y32f1⟩) hHeld ?r32f1
      case y32f1 => (intro wq hSw; go_simp; try rfl)
      simp only [Act.put, List.setIfInBounds_toArray, List.set_cons_zero, List.set_cons_succ]
      refine wpAnyH_take (i := 33) (v := ?_) rfl (by kernel_rfl) (by kernel_rfl) (by kernel_rfl) (fun _ _ _ h => h) (Or.inl ⟨by kernel_rfl, ?y33f1⟩) hHeld ?r33f1
      case y33f1 => (intro wq hSw; go_simp; try rfl)
      simp only [Act.put, List.setIfInBounds_toArray, List.set_cons_zero, List.set_cons_succ]
      refine wpAnyH_take (i := 34) (v := ?_) rfl (by kernel_rfl) (by kernel_rfl) (by kernel_rfl) (fun _ _ _ h => h) (Or.inl ⟨by kernel_rfl, ?y34f1⟩) hHeld ?r34f1
      case y34f1 => (intro wq hSw; go_simp; try rfl)
      simp only [Act.put, List.setIfInBounds_toArray, List.set_cons_zero, List.set_cons_succ]
      refine wpAnyH_take (i := 35) (v := ?_) rfl (by kernel_rfl) (by kernel_rfl) (by kernel_rfl) (fun _ _ _ h => h) (Or.inl ⟨by kernel_rfl, ?y35f1⟩) hHeld ?r35f1
      case y35f1 => (intro wq hSw; have q2 := (B2.out wq hSw).2.1; go_simp; try rfl)
      simp only [Act.put, List.setIfInBounds_toArray, List.set_cons_zero, List.set_cons_succ]
      refine wpAnyH_take (i := 36) (v := ?_) rfl (by kernel_rfl) (by kernel_rfl) (by kernel_rfl) (fun _ _ _ h => h) (Or.inl ⟨by kernel_rfl, ?y36f1⟩) hHeld ?r36f1
      case y36f1 => (intro wq hSw; go_simp; try rfl)
      simp only [Act.put, List.setIfInBounds_toArray, List.set_cons_zero, List.set_cons_succ]
      refine wpAnyH_take (i := 37) (v := ?_) rfl (by kernel_rfl) (by kernel_rfl) (by kernel_rfl) (fun _ _ _ h => h) (Or.inl ⟨by kernel_rfl, ?y37f1⟩) hHeld ?r37f1
      case y37f1 => (intro wq hSw; go_simp; try rfl)
      simp only [Act.put, List.setIfInBounds_toArray, List.set_cons_zero, List.set_cons_succ]
      refine wpAnyH_take (i := 38) (v := ?_) rfl (by kernel_rfl) (by kernel_rfl) (by kernel_rfl) (fun _ _ _ h => h) (Or.inl ⟨by kernel_rfl, ?y38f1⟩) hHeld ?r38f1
      case y38f1 => (intro wq hSw; go_simp; try rfl)
      simp only [Act.put, List.setIfInBounds_toArray, List.set_cons_zero, List.set_cons_succ]
      refine wpAnyH_take (i := 39) (v := ?_) rfl (by kernel_rfl) (by kernel_rfl) (by kernel_rfl) (fun _ _ _ h => h) (Or.inl ⟨by kernel_rfl, ?y39f1⟩) hHeld ?r39f1
      case y39f1 => (intro wq hSw; go_simp; try rfl)
      simp only [Act.put, List.setIfInBounds_toArray, List.set_cons_zero, List.set_cons_succ]
      refine wpAnyH_take (i := 40) (v := ?_) rfl (by kernel_rfl) (by kernel_rfl) (by kernel_rfl) (fun _ _ _ h => h) (Or.inl ⟨by kernel_rfl, ?y40f1⟩) hHeld ?r40f1
      case y40f1 => (intro wq hSw; have q3 := (B2.out wq hSw).2.2.1; go_simp; try rfl)
      simp only [Act.put, List.setIfInBounds_toArray, List.set_cons_zero, List.set_cons_succ]
      refine wpAnyH_take (i := 41) (v := ?_) rfl (by kernel_rfl) (by kernel_rfl) (by kernel_rfl) (fun _ _ _ h => h) (Or.inl ⟨by kernel_rfl, ?y41f1⟩) hHeld ?r41f1
      case y41f1 => (intro wq hSw; have q5 := (B2.out wq hSw).2.2.2; go_simp; try rfl)
      simp only [Act.put, List.setIfInBounds_toArray, List.set_cons_zero, List.set_cons_succ]
      refine wpAnyH_ready (rs := [42]) (by kernel_rfl) (by simp) ?_
      refine AllReadyH.cons rfl (fun K hK => ?_) AllReadyH.nil
      go_simp
      go_wp2_with (go_at_call 67; refine (TR.out _ hHeld.e).mono ?_; rintro e w5 ⟨rfl, hb5⟩; have h5 := hHeld.below hb5)
      refine hK.out _ _ h5 (fun _ => ?_)
      clear hK K
      refine wpAnyH_ready (rs := [43]) (by kernel_rfl) (by simp) ?_
      refine AllReadyH.cons rfl (fun K hK => ?_) AllReadyH.nil
      go_simp
      refine hK.out _ _ h5 (fun _ => ?_)
      clear hK K
      refine wpAnyH_ready (rs := [44]) (by kernel_rfl) (by simp) ?_
      refine AllReadyH.cons rfl (fun K hK => ?_) AllReadyH.nil
      go_simp
      refine hK.out _ _ h5 (fun _ => ?_)
      clear hK K
      refine wpAnyH_done (by kernel_rfl) ?_ _
      go_wp2_with fail
      go_ret
      exact ⟨rfl, h5.e⟩
end Go.Proofs.Ytepgifapepaheaa
