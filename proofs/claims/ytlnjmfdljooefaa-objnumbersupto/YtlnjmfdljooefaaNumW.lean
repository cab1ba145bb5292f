/-
  The walk of the law ObjNumbers: it returns true.
-/
import Derived.Test.YtlnjmfdljooefaaNt
import Derived.Deep.RegionHeld
namespace Go.Proofs.Ytlnjmfdljooefaa
set_option linter.unusedVariables false
set_option linter.unusedSimpArgs false
open Go.ChangeShapes Go.WideShapes Go.ChangeAt Go.RowKit

/-- What is held of a world while both rows are looked at. -/
def Two (V : World) (v2 v3 : Value) (l2 l3 : List Int) (X : World) : Prop :=
  Below V.heap.size V X ∧ (convert 22 9 v2).run Try.prog X = .ok (.string (strOfNums l2)) X ∧ (convert 22 9 v3).run Try.prog X = .ok (.string (strOfNums l3)) X
theorem ow_keep {w w' : World} {B : Nat} {v : Value} {l : List Int} (h : Ow w B v l) (hb : Below w.heap.size w w') : Ow w' B v l :=
  ⟨h.1, h.2.imp id fun ⟨g, cap, cur, a, b, c, d⟩ => ⟨g, cap, cur, a, b, by rw [hb.block g (Array.getElem?_eq_some_iff.1 c).1]; exact c, d⟩⟩
theorem drB (X : World) : Below X.heap.size X X.drew := ⟨rfl, rfl, rfl, Nat.le_refl _, fun _ _ => rfl⟩
theorem drBN (X : World) (n : Nat) : Below X.heap.size X (X.drewN n) := ⟨rfl, rfl, rfl, Nat.le_refl _, fun _ _ => rfl⟩

set_option maxHeartbeats 4000000 in
set_option maxRecDepth 20000 in
theorem numbers_any (a : Option Addr) (len cap : Nat) (f : Nat → Int) (n : Int) (s : ByteArray) (at_ most : Int) (w : World) (h : Src w a len cap f) (hc : len ≤ cap) (n0 : 0 ≤ n) (n1 : n ≤ 4294967295)
    (m0 : -9223372036854775808 ≤ most) (m1 : most ≤ 9223372036854775807) (hs : len + s.size + 5 ≤ 140737488355328) :
    Calls Try.prog 3 #[.slice a len cap, .int .u32 n, .string s, .int .i64 at_, .int .i64 most] w fun e w' => e = .returned (.bool true) ∧ Below w.heap.size w w' := by
  have HS : Hid (Src w a len cap f) := h
  have U1 : ∀ W, Src W a len cap f → Calls Try.prog 12 #[.slice a len cap, .int .i64 at_] W _ := fun W hW => uint_any a len cap f at_ W hW hc
  have U2 : ∀ W, Src W a len cap f → Calls Try.prog 13 #[.slice a len cap, .int .i64 at_] W _ := fun W hW => rnumber_any a len cap f at_ W hW hc
  have U3 : ∀ W, Src W a len cap f → Calls Try.prog 14 #[.slice a len cap, .int .i64 at_, .int .i64 most] W _ := fun W hW => text_any a len cap f at_ most W hW hc m0 m1
  have U4 : ∀ W, Src W a len cap f → Calls Try.prog 15 #[.slice a len cap, .int .i64 at_, .int .i64 most] W _ := fun W hW => rtext_any a len cap f at_ most W hW hc m0 m1
  generalize uP at_ (uintR f len at_) = k2 at U1 U2
  generalize uintR f len at_ = R at U1 U2
  generalize uN R = k1 at U1 U2
  generalize uB R = k3 at U1 U2
  generalize textR f len at_ most = R' at U3 U4
  generalize tS f R' = t1 at U3 U4
  generalize tP R' = t2 at U3 U4
  generalize tB R' = t3 at U3 U4
  have H1 : Hid (∀ W, Src W a len cap f → Calls Try.prog 12 #[.slice a len cap, .int .i64 at_] W _) := U1
  have H2 : Hid (∀ W, Src W a len cap f → Calls Try.prog 13 #[.slice a len cap, .int .i64 at_] W _) := U2
  have H3 : Hid (∀ W, Src W a len cap f → Calls Try.prog 14 #[.slice a len cap, .int .i64 at_, .int .i64 most] W _) := U3
  have H4 : Hid (∀ W, Src W a len cap f → Calls Try.prog 15 #[.slice a len cap, .int .i64 at_, .int .i64 most] W _) := U4
  clear h U1 U2 U3 U4
  go_enter Try.func3, Try.ntmps3
  go_wp2_with (first
    | (go_at_call 9; refine (shown_any _).mono ?_; rintro e w1 ⟨rfl, hb1⟩; have HS1 : Hid (Src w1 a len cap f) := HS.out.below hb1)
    | (go_at_call 10; refine (putUint_any a len cap f n _ HS1.out n0 n1).mono ?_; rintro e w2 ⟨v2, rfl, o2, hb2⟩; have HS2 : Hid (Src w2 a len cap f) := HS1.out.below hb2; have O2 : Hid (Ow w2 w1.heap.size v2 (bl f len ++ numL 4 n)) := o2; clear o2)
    | (go_at_call 11; refine (putText_any a len cap f s _ HS2.out hs).mono ?_; rintro e w3 ⟨v3, rfl, o3, hb3⟩; have HS3 : Hid (Src w3 a len cap f) := HS2.out.below hb3; have O3 : Hid (Ow w3 w2.heap.size v3 (bl f len ++ textL s)) := o3; clear o3)
    | (go_at_call 12; refine (H1.out _ HS3.out).mono ?_; rintro e wu ⟨rfl, hw⟩; obtain rfl := hw.symm; clear hw)
    | (go_at_call 13; refine (H2.out _ HS3.out).mono ?_; rintro e wu ⟨rfl, hw⟩; obtain rfl := hw.symm; clear hw)
    | (go_at_call 14; refine (H3.out _ HS3.out).mono ?_; rintro e wu ⟨rfl, hw⟩; obtain rfl := hw.symm; clear hw)
    | (go_at_call 15; refine (H4.out _ HS3.out).mono ?_; rintro e wu ⟨rfl, hw⟩; obtain rfl := hw.symm; clear hw)
    | go_in)
  have HT : Hid (∀ X, Below w3.heap.size w3 X → Two w3 v2 v3 (bl f len ++ numL 4 n) (bl f len ++ textL s) X) := fun X hX =>
    ⟨hX, conv_ow (ow_keep (ow_keep O2.out hb3) hX) X (fun _ _ _ => rfl), conv_ow (ow_keep O3.out hX) X (fun _ _ _ => rfl)⟩
  have HW : Hid (Below w.heap.size w w3) := (hb1.trans (hb2.mono hb1.size)).trans (hb3.mono (Nat.le_trans hb1.size hb2.size))
  clear O2 O3 H1 H2 H3 H4 HS HS1 HS2 hb1 hb2 hb3
  unfold Two at HT
  have s0 := HT.out _ (drB w3)
  first | (go_region_held (fun X => Below w3.heap.size w3 X ∧ (convert 22 9 v2).run Try.prog X = .ok (.string (strOfNums (bl f len ++ numL 4 n))) X ∧ (convert 22 9 v3).run Try.prog X = .ok (.string (strOfNums (bl f len ++ textL s))) X) (first | assumption | exact HT.out _ (by assumption)) (first
    | (go_at_call 16; refine (rputUint_any a len cap f n _ (HS3.out.below (by assumption : Below w3.heap.size w3 _ ∧ _).1) n0 n1).mono ?_; rintro e w4 ⟨v4, rfl, o4, hb4⟩; have s4 := HT.out w4 ((by assumption : Below w3.heap.size w3 _ ∧ _).1.trans (hb4.mono (by assumption : Below w3.heap.size w3 _ ∧ _).1.size)); have hq4 := conv_ow o4 w4 (fun _ _ _ => rfl); clear o4 hb4)
    | (go_at_call 17; refine (rputText_any a len cap f s _ (HS3.out.below (by assumption : Below w3.heap.size w3 _ ∧ _).1) hs).mono ?_; rintro e w5 ⟨v5, rfl, o5, hb5⟩; have s5 := HT.out w5 ((by assumption : Below w3.heap.size w3 _ ∧ _).1.trans (hb5.mono (by assumption : Below w3.heap.size w3 _ ∧ _).1.size)); have hq5 := conv_ow o5 w5 (fun _ _ _ => rfl); clear o5 hb5))) | fail
  all_goals
    have hz : Below w.heap.size w _ := HW.out.trans (Below.mono (by assumption : Below w3.heap.size w3 _ ∧ _).1 HW.out.size)
    go_wp2_with fail
    go_ret
    exact ⟨by first | rfl | simp, hz⟩
end Go.Proofs.Ytlnjmfdljooefaa
