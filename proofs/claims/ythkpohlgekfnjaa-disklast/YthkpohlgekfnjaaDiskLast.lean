/-
  The law on what was written last: for every two numbers and steps it returns true, and nothing that was there has turned; no condition.
-/
import Derived.Test.YthkpohlgekfnjaaLastA
import Derived.Test.YthkpohlgekfnjaaLastB
import Derived.Test.YthkpohlgekfnjaaLastC
import Derived.Test.YthkpohlgekfnjaaLastD
import Derived.Test.YthkpohlgekfnjaaLastE
import Derived.Test.YthkpohlgekfnjaaOpenSt
namespace Go.Proofs.Ythkpohlgekfnjaa
open Go.ChangeShapes Go.WideShapes Go.ChangeAt Go.RowKit
namespace diskLast
theorem walk (n m : Int) (one two : St) (w : World) (ho : one.Ok) (ht : two.Ok) : Calls Try.prog 6 #[.int .i64 n, .int .i64 m, one.val, two.val] w fun e w' => e = .returned (.bool true) ∧ Below w.heap.size w w' := by
  by_cases he : n = m
  · by_cases h1 : n < 0
    · exact low_eq n m one two w ho ht h1 he
    · by_cases h2 : n < 16
      · exact in_eq n m one two w ho ht (by omega) h2 he
      · exact high_eq n m one two w ho ht (by omega) he
  · by_cases h1 : n < 0
    · by_cases g1 : m < 0
      · exact low_low n m one two w ho ht h1 g1 he
      · by_cases g2 : m < 16
        · exact low_in n m one two w ho ht h1 (by omega) g2 he
        · exact low_high n m one two w ho ht h1 (by omega) he
    · by_cases h2 : n < 16
      · by_cases g1 : m < 0
        · exact in_low n m one two w ho ht (by omega) h2 g1 he
        · by_cases g2 : m < 16
          · exact in_in n m one two w ho ht (by omega) h2 (by omega) g2 he
          · exact in_high n m one two w ho ht (by omega) h2 (by omega) he
      · by_cases g1 : m < 0
        · exact high_low n m one two w ho ht (by omega) g1 he
        · by_cases g2 : m < 16
          · exact high_in n m one two w ho ht (by omega) (by omega) g2 he
          · exact high_high n m one two w ho ht (by omega) (by omega) he
set_option maxRecDepth 100000 in
theorem lifted (os : Os) (started : os.Started) (H : Type) (enc : TypeId × Value → H) :
    ReturnsInHanded {} Try.checked os 6 .any (Rows.diskLastSpec.pre6 enc Try.prog Try.f6 Rows.diskLastRow.domain false) (Rows.diskLastSpec.post enc Try.prog Try.f6 false true false false) := by
  refine returnsInHanded_of_change (C := Try.checked) own started (by kernel_rfl) Try.func6
    (ChangeSpec.witness6 (enc := enc) (C := Try.checked) false ⟨#[], #[.int .i64 0, .int .i64 0, .agg #[.int .i64 0, .int .i64 0, .int .u8 0, .int .u8 0, .int .i64 0], .agg #[.int .i64 0, .int .i64 0, .int .u8 0, .int .u8 0, .int .i64 0]], []⟩ 8 (by kernel_rfl) (by kernel_rfl) (by kernel_rfl) (by kernel_rfl)) ?_
  intro W base args ds gs before hval0 hW hcnd _
  have hval : ∀ (j : Nat) t v, Try.f6.params[j]? = some t → args[j]? = some v → Value.okWide Try.prog W .any base t v := hval0
  have hW' := hW
  obtain ⟨p, q, hA0, hV, rfl, hfz, hnd⟩ := hW
  have hA : DataW.TrodAll enc Try.prog W 0 (fun _ => true) true Try.f6.params.toList args.toList ds p := hA0
  rw [Try.params6] at hA hval
  obtain ⟨v0, vs0, d0, ds0, p0, q0, hargs, rfl, rfl, h0, r0⟩ := trodAll_cons hA
  obtain ⟨v1, vs1, d1, ds1, p1, q1, rfl, rfl, rfl, h1, r1⟩ := trodAll_cons r0
  obtain ⟨v2, vs2, d2, ds2, p2, q2, rfl, rfl, rfl, h2, r2⟩ := trodAll_cons r1
  obtain ⟨v3, vs3, d3, ds3, p3, q3, rfl, rfl, rfl, h3, r3⟩ := trodAll_cons r2
  obtain ⟨rfl, rfl, rfl⟩ := trodAll_nil r3
  obtain rfl : args = #[v0, v1, v2, v3] := by cases args; simp_all
  obtain ⟨rfl, rfl⟩ := trodVars_none hV
  have lt2 : ∀ x ∈ p2, x.block < W.heap.size := by obtain ⟨m, hm⟩ := h2; exact DataW.trod_lt m _ _ _ hm
  have lt3 : ∀ x ∈ p3, x.block < W.heap.size := by obtain ⟨m, hm⟩ := h3; exact DataW.trod_lt m _ _ _ hm
  obtain ⟨a0, rfl, rfl, rfl, w0⟩ := open_int Try.underlying3 (hval 0 3 v0 rfl rfl) h0
  obtain ⟨a1, rfl, rfl, rfl, w1⟩ := open_int Try.underlying3 (hval 1 3 v1 rfl rfl) h1
  obtain ⟨s2, ok2, rfl, _⟩ := open_step (hval 2 33 v2 rfl rfl) h2
  obtain ⟨s3, ok3, rfl, _⟩ := open_step (hval 3 33 v3 rfl rfl) h3
  clear hA0 hval0
  simp only [List.append_nil] at hW'
  refine (walk a0 a1 s2 s3 W ok2 ok3).mono fun e W' ⟨he, hg⟩ => ?_
  subst he
  exact ⟨_, rfl, _, _, _, [], _, [], hW', trodAll_mk1 (shut_bool Try.underlying4 _), (trodAll_cons_mk (shut_int Try.underlying3 w0) (trodAll_cons_mk (shut_int Try.underlying3 w1) (trodAll_cons_mk (Below.trod laidOut (by kernel_rfl) (of_decide_eq_true (by kernel_rfl)) h2 hg lt2) (trodAll_cons_mk (Below.trod laidOut (by kernel_rfl) (of_decide_eq_true (by kernel_rfl)) h3 hg lt3) trodAll_mk0)))), rfl, hg.frame _, fun h => by cases h⟩
theorem over : Rows.diskLastRow.holds Try.pinned (OpenSpec.ofChange Rows.diskLastSpec) :=
  OpenClaim.holds_of_wide 6 Try.f6 rfl rfl rfl rfl rfl rfl rfl ⟨rfl, rfl, rfl, rfl, rfl⟩ rfl rfl rfl rfl rfl (by kernel_rfl) Try.func6 (by kernel_rfl)
    (of_decide_eq_true (by kernel_rfl)) (by unfold Func.isWrapper; first | (rw [if_pos (by decide +kernel)]; kernel_rfl) | (rw [if_neg (by decide +kernel)]; exact ⟨rfl, rfl⟩))
    (fun os started H enc _ => lifted os started H enc)
end diskLast
/-- The given statement. -/
theorem diskLast_holds : Rows.DiskLastSaid := diskLast.over
#print axioms diskLast_holds
end Go.Proofs.Ythkpohlgekfnjaa
