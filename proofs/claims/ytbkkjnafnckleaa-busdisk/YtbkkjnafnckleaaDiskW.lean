/-
  A command of the disk, as the law gives it.
-/
import Derived.Test.YtbkkjnafnckleaaBMeth
import Derived.Test.YtbkkjnafnckleaaMemLaw
namespace Go.Proofs.Ytbkkjnafnckleaa
open Go.ChangeShapes Go.WideShapes Go.ChangeAt Go.RowKit
attribute [local go_sem ↓] loadSec_seal storeSec_seal eqlSec_seal zeroSec
attribute [local go_sem] loadSec_run storeSec_run rowAt_at rowAt_old rowAt_drew rowAt_drewN roomSec_new roomAt_old roomAt_drew roomAt_drewN putSec_new putRow_past rowSec_put size_put putRow_drew putRow_drewN alloc_drewN setCell_drewN sec_size

set_option linter.unusedVariables false

theorem step_sc (L : Lg) (v : Int) : L.step 3 4294967244 v = ((0, 0), { L with sc := v }) := rfl
theorem step_ad (L : Lg) (v : Int) : L.step 3 4294967248 v = ((0, 0), { L with ad := v }) := rfl
theorem step_cm (L : Lg) (v : Int) : L.step 3 4294967252 v = ((0, 0), L.obeyed v) := rfl
theorem step_lc (L : Lg) (v : Int) : L.step 1 4294967252 v = ((L.cm, 0), L) := rfl
/-- What a command of the disk leaves. -/
def Lg.asked (L : Lg) (c s a : Int) : Lg := Lg.obeyed { L with sc := s, ad := a } c
def Lg.did (L : Lg) (c s a : Int) : Bool := (Lg.moved { L with sc := s, ad := a } c).1
theorem asked_cm (L : Lg) (c s a : Int) : (L.asked c s a).cm = if L.did c s a then 0 else 1 := rfl
theorem command_any (b : Nat) (P : Ph) (L : Lg) (c s a : Int) (w : World) (h : Bus w b P L) (c0 : 0 ≤ c) (c1 : c ≤ 4294967295) (s0 : 0 ≤ s) (s1 : s ≤ 4294967295) (a0 : 0 ≤ a) (a1 : a ≤ 4294967295) : Calls Try.prog 24 #[.pointer (some ⟨b, 0, none⟩), .int .u32 c, .int .u32 s, .int .u32 a] w fun e w' => e = .returned (.bool (L.did c s a)) ∧ ∃ P', Stp w b P w' P' (L.asked c s a) := by
  have H : Hid (Bus w b P L) := h
  clear h
  have HC := asked_cm L c s a
  rcases hd : L.did c s a
  all_goals
    rw [hd] at HC
    have HC : Hid _ := HC
    clear hd
    go_enter Try.func24, Try.ntmps24
    go_wp2_with fail
    refine (do_is b P L _ _ _ _ H.out (step_sc L s) (by decide) (by decide) s0 s1).mono ?_; rintro e w1 ⟨rfl, P1, hS⟩; have H1 : Hid (Stp w b P w1 P1 { L with sc := s }) := hS; clear hS
    go_wp2_with fail
    refine (do_is b P1 _ _ _ _ _ H1.out.bus (step_ad _ a) (by decide) (by decide) a0 a1).mono ?_; rintro e w2 ⟨rfl, P2, hS⟩; have H2 : Hid (Stp w b P w2 P2 { L with sc := s, ad := a }) := H1.out.trans hS; clear hS H1
    go_wp2_with fail
    refine (do_is b P2 _ _ _ _ _ H2.out.bus (step_cm _ c) (by decide) (by decide) c0 c1).mono ?_; rintro e w3 ⟨rfl, P3, hS⟩; have H3 : Hid (Stp w b P w3 P3 (L.asked c s a)) := H2.out.trans hS; clear hS H2
    go_wp2_with fail
    refine (do_is b P3 _ _ _ _ _ H3.out.bus ((step_lc _ 0).trans (by rw [HC.out])) (by decide) (by decide) (by decide) (by decide)).mono ?_; rintro e w4 ⟨rfl, P4, hS⟩; have H4 : Hid (Stp w b P w4 P4 (L.asked c s a)) := H3.out.trans hS; clear hS H3
    go_wp2_with fail
    go_ret
    exact ⟨rfl, P4, H4.out⟩
end Go.Proofs.Ytbkkjnafnckleaa
