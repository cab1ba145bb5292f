/-
  Layer 7: whether a fix names a thing that may be.
-/
import Derived.Test.YtepgifapepaheaaRds
namespace Go.Proofs.Ytepgifapepaheaa
set_option linter.unusedVariables false
set_option linter.unusedSimpArgs false
open Go.ChangeShapes Go.WideShapes Go.ChangeAt Go.RowKit
attribute [local go_sem] Oc.at0 Oc.at1 Oc.at2 Oc.at3 Oc.at4 Oc.at5 Oc.at6 Oc.at7 Oc.at8 Oc.at9 Oc.at10 Oc.at11 Oc.at12

def thingB (o : Ob) (x : Int × Int × Int × Int) : Bool :=
  if x.2.1 = 1 ∨ x.2.1 = 5 then fromB x.2.2.2 (if (x.2.2.1 == -1) then (o.procs.length : Int) else 100)
  else if x.2.1 = 2 then fromB x.2.2.2 (if (x.2.2.1 == -1) then (o.vars.length : Int) else 200)
  else if x.2.1 = 3 then (x.2.2.1 == -1) && fromB x.2.2.2 o.strs.length
  else if x.2.1 = 4 then (x.2.2.1 == -1) && foundB (o.descs.map (·.1)) x.2.2.2
  else false
theorem kind_no (k n : Int) (h : k ≠ n) : (k == n) = false := by simpa using h
theorem kind_is (n : Int) : (n == n) = true := by simp
set_option maxHeartbeats 8000000 in
set_option maxRecDepth 20000 in
theorem namesThing_any (w : World) (c : Oc) (o : Ob) (h : ObR w c o) (x : Int × Int × Int × Int) : Calls Try.prog 71 #[.agg c.cells, .agg (xEnc x)] w fun e w' => e = .returned (.bool (thingB o x)) ∧ Below w.heap.size w w' := by
  have FR : Hid (∀ a b X, Calls Try.prog 58 #[.int .i64 a, .int .i64 b] X fun r w' => r = .returned (.bool (fromB a b)) ∧ w' = X) := fun a b X => from0_any a b X
  have OT : Hid (∀ a b X, Calls Try.prog 80 #[.bool true, .int .i64 a, .int .i64 b] X fun r w' => r = .returned (.int .i64 a) ∧ w' = X) := fun a b X => oneOf_any true a b X
  have OF : Hid (∀ a b X, Calls Try.prog 80 #[.bool false, .int .i64 a, .int .i64 b] X fun r w' => r = .returned (.int .i64 b) ∧ w' = X) := fun a b X => oneOf_any false a b X
  have l4 := h.pr.len
  have l8 := h.va.len
  have l10 := h.st.len
  obtain ⟨ds, hd1, hd2, hd3⟩ := h.ds
  obtain ⟨pa, kd, m, n⟩ := x
  have DE : Hid (∀ X, Below w.heap.size w X → Calls Try.prog 79 #[.slice c.ds.a c.ds.n c.ds.c, .int .i64 n] X fun e w' => e = .returned (.bool (foundB (o.descs.map (·.1)) n)) ∧ Below X.heap.size X w') := fun X hX => by
    have := described_any X c.ds ds (hd2.below hX) n
    rwa [show ds.map (·.1.1) = o.descs.map (·.1) by rw [← hd1, List.map_map]; rfl] at this
  unfold thingB xEnc
  simp only
  rw [← l4, ← l8, ← l10]
  generalize foundB (o.descs.map (·.1)) n = fb at *
  clear h hd1 hd2 hd3 l4 l8 l10
  by_cases k1 : kd = 1
  · subst k1
    rw [if_pos (Or.inl rfl)]
    have e0 : ∀ (a b : Int), (if (true : Bool) = true then a else b) = a := fun _ _ => rfl
    have e1 : ∀ (a b : Int), (if (false : Bool) = true then a else b) = b := fun _ _ => rfl
    cases hm : (m == -1)
    · have ho : (m == -1) = false := hm
      clear DE
      go_enter Try.func71, Try.ntmps71
      go_wp2
      go_quiet (first | (go_at_call 80; exact Calls.quiet_of_same (OF.out _ _ _)) | (go_at_call 58; exact Calls.quiet_of_same (FR.out _ _ _)))
      go_wp2_with fail
      go_ret
      exact ⟨rfl, bdn (by go_grown) _⟩
    · have ho : (m == -1) = true := hm
      clear DE
      go_enter Try.func71, Try.ntmps71
      go_wp2
      go_quiet (first | (go_at_call 80; exact Calls.quiet_of_same (OT.out _ _ _)) | (go_at_call 58; exact Calls.quiet_of_same (FR.out _ _ _)))
      go_wp2_with fail
      go_ret
      exact ⟨rfl, bdn (by go_grown) _⟩
  by_cases k5 : kd = 5
  · subst k5
    rw [if_pos (Or.inr rfl)]
    have e0 : ∀ (a b : Int), (if (true : Bool) = true then a else b) = a := fun _ _ => rfl
    have e1 : ∀ (a b : Int), (if (false : Bool) = true then a else b) = b := fun _ _ => rfl
    cases hm : (m == -1)
    · have ho : (m == -1) = false := hm
      clear DE
      go_enter Try.func71, Try.ntmps71
      go_wp2
      go_quiet (first | (go_at_call 80; exact Calls.quiet_of_same (OF.out _ _ _)) | (go_at_call 58; exact Calls.quiet_of_same (FR.out _ _ _)))
      go_wp2_with fail
      go_ret
      exact ⟨rfl, bdn (by go_grown) _⟩
    · have ho : (m == -1) = true := hm
      clear DE
      go_enter Try.func71, Try.ntmps71
      go_wp2
      go_quiet (first | (go_at_call 80; exact Calls.quiet_of_same (OT.out _ _ _)) | (go_at_call 58; exact Calls.quiet_of_same (FR.out _ _ _)))
      go_wp2_with fail
      go_ret
      exact ⟨rfl, bdn (by go_grown) _⟩
  by_cases k2 : kd = 2
  · subst k2
    rw [if_neg (by omega), if_pos rfl]
    have e0 : ∀ (a b : Int), (if (true : Bool) = true then a else b) = a := fun _ _ => rfl
    have e1 : ∀ (a b : Int), (if (false : Bool) = true then a else b) = b := fun _ _ => rfl
    cases hm : (m == -1)
    · have ho : (m == -1) = false := hm
      clear DE
      go_enter Try.func71, Try.ntmps71
      go_wp2
      go_quiet (first | (go_at_call 80; exact Calls.quiet_of_same (OF.out _ _ _)) | (go_at_call 58; exact Calls.quiet_of_same (FR.out _ _ _)))
      go_wp2_with fail
      go_ret
      exact ⟨rfl, bdn (by go_grown) _⟩
    · have ho : (m == -1) = true := hm
      clear DE
      go_enter Try.func71, Try.ntmps71
      go_wp2
      go_quiet (first | (go_at_call 80; exact Calls.quiet_of_same (OT.out _ _ _)) | (go_at_call 58; exact Calls.quiet_of_same (FR.out _ _ _)))
      go_wp2_with fail
      go_ret
      exact ⟨rfl, bdn (by go_grown) _⟩
  by_cases k3 : kd = 3
  · subst k3
    rw [if_neg (by omega), if_neg (by omega), if_pos rfl]
    have e0 : ∀ (a b : Int), (if (true : Bool) = true then a else b) = a := fun _ _ => rfl
    have e1 : ∀ (a b : Int), (if (false : Bool) = true then a else b) = b := fun _ _ => rfl
    cases hm : (m == -1)
    · have ho : (m == -1) = false := hm
      clear DE
      simp only [Bool.false_and]
      go_enter Try.func71, Try.ntmps71
      go_wp2
      go_ret
      exact ⟨rfl, by go_grown⟩
    · have ho : (m == -1) = true := hm
      clear DE
      simp only [Bool.true_and]
      go_enter Try.func71, Try.ntmps71
      go_wp2_with (go_at_call 58; refine (FR.out _ _ _).mono ?_; rintro e w1 ⟨rfl, hw⟩; rw [hw]; clear hw)
      go_ret
      exact ⟨rfl, by go_grown⟩
  by_cases k4 : kd = 4
  · subst k4
    rw [if_neg (by omega), if_neg (by omega), if_neg (by omega), if_pos rfl]
    have e0 : ∀ (a b : Int), (if (true : Bool) = true then a else b) = a := fun _ _ => rfl
    have e1 : ∀ (a b : Int), (if (false : Bool) = true then a else b) = b := fun _ _ => rfl
    cases hm : (m == -1)
    · have ho : (m == -1) = false := hm
      simp only [Bool.false_and]
      go_enter Try.func71, Try.ntmps71
      go_wp2
      go_ret
      exact ⟨rfl, by go_grown⟩
    · have ho : (m == -1) = true := hm
      simp only [Bool.true_and]
      go_enter Try.func71, Try.ntmps71
      go_wp2_with (go_at_call 79; refine (DE.out _ (by go_grown)).mono ?_; rintro e w1 ⟨rfl, hb⟩)
      go_ret
      exact ⟨rfl, Below.trans (by go_grown) (hb.mono (by simp; omega))⟩
  rw [if_neg (by omega), if_neg k2, if_neg k3, if_neg k4]
  have q1 := kind_no kd 1 k1
  have q5 := kind_no kd 5 k5
  have q2 := kind_no kd 2 k2
  have q3 := kind_no kd 3 k3
  have q4 := kind_no kd 4 k4
  clear k1 k2 k3 k4 k5
  generalize hm : (m == -1) = own at *
  go_enter Try.func71, Try.ntmps71
  go_wp2
  go_ret
  exact ⟨rfl, by go_grown⟩
end Go.Proofs.Ytepgifapepaheaa
