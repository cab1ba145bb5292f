/-
  The law on scripts: for every number of sectors and every row of steps it returns true, and nothing that was there has turned; no condition.
-/
import Derived.Test.YthkpohlgekfnjaaDoesLaw
import Derived.Deep.Slices
namespace Go.Proofs.Ythkpohlgekfnjaa
open Go.ChangeShapes Go.WideShapes Go.ChangeAt Go.RowKit
section
variable {H : Type} {enc : TypeId × Value → H} {W : World} {base : Nat} {spare : Nat → Bool} {held : Bool}
theorem step_of_list {l : List Value} {fuel : Nat} {x : DataW H × List MemPlace} (hf : DataW.trod enc Try.prog W base spare held fuel 33 l = some x) : ∃ s : St, s.Ok ∧ l[0]? = some (.int .i64 s.Kind) ∧ l[1]? = some (.int .i64 s.N) ∧ l[2]? = some (.int .u8 s.Fill) ∧ l[3]? = some (.int .u8 s.Mark) ∧ l[4]? = some (.int .i64 s.Long) := by
  obtain ⟨xs, n, _, _, hl, hlen, hfld⟩ := DataW.trod_struct Try.underlying33 hf
  have hlen5 : xs.length = 5 := hlen
  obtain ⟨a, ea, wa⟩ := num_at Try.underlying3 Try.cells3 hlen5 (by omega) (hfld 0 _ rfl)
  obtain ⟨b, eb, wb⟩ := num_at Try.underlying3 Try.cells3 hlen5 (by omega) (hfld 1 _ rfl)
  obtain ⟨c, ec, wc⟩ := num_at Try.underlying5 Try.cells5 hlen5 (by omega) (hfld 2 _ rfl)
  obtain ⟨d, ed, wd⟩ := num_at Try.underlying5 Try.cells5 hlen5 (by omega) (hfld 3 _ rfl)
  obtain ⟨e, ee, we⟩ := num_at Try.underlying3 Try.cells3 hlen5 (by omega) (hfld 4 _ rfl)
  exact ⟨⟨a, b, c, d, e⟩, ⟨by simpa [Lit.wf, IntKind.min, IntKind.max, IntKind.signed, IntKind.bits] using wc, by simpa [Lit.wf, IntKind.min, IntKind.max, IntKind.signed, IntKind.bits] using wd⟩, ea, eb, ec, ed, ee⟩
end
theorem open_steps {H : Type} {enc : TypeId × Value → H} {W : World} {base : Nat} {r : Reach} {b0 : Nat} {v : Value} {d : DataW H} {p : List MemPlace} (hv : Value.okWide Try.prog W r b0 22 v) (h : DataW.Trod enc Try.prog W base (fun _ => true) true 22 v d p) :
    ∃ a len cap g, v = .slice a len cap ∧ RdSt W a len g := by
  obtain ⟨a0, len0, cap0, rfl⟩ := okWide_slice Try.underlying22 hv
  obtain ⟨fuel, hf⟩ := h
  rcases Go.Deep.open_slice Try.underlying22 hf with ⟨hcs, _⟩ | ⟨a, len, cap, m, n, D, Pl, hcs, _, hl, hm, hmm, _, hel⟩
  · simp [Value.cells] at hcs
    obtain ⟨rfl, rfl, rfl⟩ := hcs
    exact ⟨none, 0, 0, fun _ => ⟨0, 0, 0, 0, 0⟩, rfl, by unfold maxLen; omega, .inl rfl⟩
  · simp [Value.cells] at hcs
    obtain ⟨rfl, rfl, rfl⟩ := hcs
    have hmc : m = cap0 := by simpa using hmm
    have hall : ∀ i, ∃ s : St, i < len0 → s.Ok ∧ W.cell? ((a.add (i * 5)).add 0) = some (.int .i64 s.Kind) ∧ W.cell? ((a.add (i * 5)).add 1) = some (.int .i64 s.N) ∧ W.cell? ((a.add (i * 5)).add 2) = some (.int .u8 s.Fill) ∧ W.cell? ((a.add (i * 5)).add 3) = some (.int .u8 s.Mark) ∧ W.cell? ((a.add (i * 5)).add 4) = some (.int .i64 s.Long) := by
      intro i
      by_cases hi : i < len0
      · obtain ⟨cs', hc, ht⟩ := hel i (by omega)
        rw [Try.cellsStep] at hc
        obtain ⟨s, ok, e0, e1, e2, e3, e4⟩ := step_of_list ht
        have hg := (World.cells?_some hc).2.2
        exact ⟨s, fun _ => ⟨ok, (hg 0 (by omega)).trans e0, (hg 1 (by omega)).trans e1, (hg 2 (by omega)).trans e2, (hg 3 (by omega)).trans e3, (hg 4 (by omega)).trans e4⟩⟩
      · exact ⟨⟨0, 0, 0, 0, 0⟩, fun h => absurd h hi⟩
    obtain ⟨g, hg⟩ := Classical.axiomOfChoice hall
    refine ⟨some a, len0, cap0, g, rfl, by omega, ?_⟩
    by_cases h0 : len0 = 0
    · exact .inl h0
    · have first := (hg 0 (by omega)).2.1
      obtain ⟨b, off, spot⟩ := a
      have hspot : spot = none := by
        have := World.cell?_spot first
        simpa [Addr.add] using this
      subst hspot
      have hcell : ∀ i, i < len0 → (g i).Ok ∧ W.cell? ⟨b, off + i * 5, none⟩ = some (.int .i64 (g i).Kind) ∧ W.cell? ⟨b, off + i * 5 + 1, none⟩ = some (.int .i64 (g i).N) ∧ W.cell? ⟨b, off + i * 5 + 2, none⟩ = some (.int .u8 (g i).Fill) ∧ W.cell? ⟨b, off + i * 5 + 3, none⟩ = some (.int .u8 (g i).Mark) ∧ W.cell? ⟨b, off + i * 5 + 4, none⟩ = some (.int .i64 (g i).Long) := fun i hi => by
        have := hg i hi
        simp only [Go.WideShapes.add_plain, Nat.add_zero] at this
        exact this
      exact .inr ⟨b, off, rfl, World.block_lt_of_cell? W _ (hcell 0 (by omega)).2.1, hcell⟩
namespace diskDoes
theorem walk (n : Int) (a : Option Addr) (len cap : Nat) (g : Nat → St) (w : World) (hr : RdSt w a len g) : Calls Try.prog 3 #[.int .i64 n, .slice a len cap] w fun e w' => e = .returned (.bool true) ∧ Below w.heap.size w w' := by
  by_cases h : isSizeB n = true
  · simp [isSizeB] at h
    obtain ⟨N, rfl⟩ : ∃ N : Nat, n = N := ⟨n.toNat, by omega⟩
    exact walk_some N a len cap g w (by omega) (by omega) hr
  · exact walk_none n _ w (by simpa using h)
set_option maxRecDepth 100000 in
theorem lifted (os : Os) (started : os.Started) (H : Type) (enc : TypeId × Value → H) :
    ReturnsInHanded {} Try.checked os 3 .any (Rows.diskDoesSpec.pre6 enc Try.prog Try.f3 Rows.diskDoesRow.domain false) (Rows.diskDoesSpec.post enc Try.prog Try.f3 false true false false) := by
  refine returnsInHanded_of_change (C := Try.checked) own started (by kernel_rfl) Try.func3
    (ChangeSpec.witness6 (enc := enc) (C := Try.checked) false ⟨#[], #[.int .i64 0, .slice none 0 0], []⟩ 8 (by kernel_rfl) (by kernel_rfl) (by kernel_rfl) (by kernel_rfl)) ?_
  intro W base args ds gs before hval0 hW hcnd _
  have hval : ∀ (j : Nat) t v, Try.f3.params[j]? = some t → args[j]? = some v → Value.okWide Try.prog W .any base t v := hval0
  have hW' := hW
  obtain ⟨p, q, hA0, hV, rfl, hfz, hnd⟩ := hW
  have hA : DataW.TrodAll enc Try.prog W 0 (fun _ => true) true Try.f3.params.toList args.toList ds p := hA0
  rw [Try.params3] at hA hval
  obtain ⟨v0, vs0, d0, ds0, p0, q0, hargs, rfl, rfl, h0, r0⟩ := trodAll_cons hA
  obtain ⟨v1, vs1, d1, ds1, p1, q1, rfl, rfl, rfl, h1, r1⟩ := trodAll_cons r0
  obtain ⟨rfl, rfl, rfl⟩ := trodAll_nil r1
  obtain rfl : args = #[v0, v1] := by cases args; simp_all
  obtain ⟨rfl, rfl⟩ := trodVars_none hV
  have lt1 : ∀ x ∈ p1, x.block < W.heap.size := by obtain ⟨m, hm⟩ := h1; exact DataW.trod_lt m _ _ _ hm
  obtain ⟨a0, rfl, rfl, rfl, w0⟩ := open_int Try.underlying3 (hval 0 3 v0 rfl rfl) h0
  obtain ⟨a, len, cap, g, rfl, hg1⟩ := open_steps (hval 1 22 v1 rfl rfl) h1
  clear hA0 hval0
  simp only [List.append_nil] at hW'
  refine (walk a0 a len cap g W hg1).mono fun e W' ⟨he, hg⟩ => ?_
  subst he
  exact ⟨_, rfl, _, _, _, [], _, [], hW', trodAll_mk1 (shut_bool Try.underlying4 _), (trodAll_cons_mk (shut_int Try.underlying3 w0) (trodAll_cons_mk (Below.trod laidOut (by kernel_rfl) (of_decide_eq_true (by kernel_rfl)) h1 hg lt1) trodAll_mk0)), rfl, hg.frame _, fun h => by cases h⟩
theorem over : Rows.diskDoesRow.holds Try.pinned (OpenSpec.ofChange Rows.diskDoesSpec) :=
  OpenClaim.holds_of_wide 3 Try.f3 rfl rfl rfl rfl rfl rfl rfl ⟨rfl, rfl, rfl, rfl, rfl⟩ rfl rfl rfl rfl rfl (by kernel_rfl) Try.func3 (by kernel_rfl)
    (of_decide_eq_true (by kernel_rfl)) (by unfold Func.isWrapper; first | (rw [if_pos (by decide +kernel)]; kernel_rfl) | (rw [if_neg (by decide +kernel)]; exact ⟨rfl, rfl⟩))
    (fun os started H enc _ => lifted os started H enc)
end diskDoes
/-- The given statement. -/
theorem diskDoes_holds : Rows.DiskDoesSaid := diskDoes.over
#print axioms diskDoes_holds
end Go.Proofs.Ythkpohlgekfnjaa
