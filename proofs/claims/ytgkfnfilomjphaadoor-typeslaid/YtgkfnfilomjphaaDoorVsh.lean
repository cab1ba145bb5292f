/-
  Layer 11: the law's example; that extending is an order.
-/
import Derived.Test.YtgkfnfilomjphaaDoorVad
namespace Go.Proofs.YtgkfnfilomjphaaDoor
set_option linter.unusedVariables false
set_option linter.unusedSimpArgs false
open Go.ChangeShapes Go.WideShapes Go.ChangeAt Go.RowKit

theorem l8_read : readB L8 = true := by kernel_rfl
theorem l8_arr : arrP L8 (alL L8) 3 1 = (⟨8, 3, 1, 0, ⟨none, 0, 0⟩, 12, 0, []⟩, 0) := by kernel_rfl
theorem l8_in {w : World} {B : Nat} {s : Sl} (h : w.ownsRow B 31 7 (.slice s.a s.n s.c) 8 (flat ttE L8)) : LsR w s L8 := by
  have e : ∀ t ∈ L8, t.fs = [] ∧ t.sl = ⟨none, 0, 0⟩ := by
    intro t ht
    simp only [L8, List.mem_cons, List.not_mem_nil, or_false] at ht
    rcases ht with rfl | rfl | rfl | rfl | rfl | rfl | rfl | rfl <;> exact ⟨rfl, rfl⟩
  refine ⟨own_rdv h (by decide), fun t ht => ?_, fun t ht f hf => ?_, by decide⟩
  · rw [(e t ht).1, (e t ht).2]
    exact ⟨rfl, rfl, by decide, .inl rfl⟩
  · rw [(e t ht).1] at hf
    cases hf
set_option maxHeartbeats 4000000 in
theorem addArr8 (w : World) (hv : Vs w) (s : Sl) (h : LsR w s L8) : Calls Tryd.prog 10 #[.slice s.a s.n s.c, .int .i64 3, .int .i64 1] w (PostAd w L8 ⟨8, 3, 1, 0, ⟨none, 0, 0⟩, 12, 0, []⟩) := by
  have hb : Below w.heap.size w ((w.alloc (.cells #[.int .i64 3] 3)).alloc (.cells #[.int .i64 1] 3)) := by go_grown
  have k1 := (BA.new w 3 #[.int .i64 3]).below ((Below.refl _ _).alloc (Nat.le_refl _) (.cells #[.int .i64 1] 3))
  have k2 := BA.new (w.alloc (.cells #[.int .i64 3] 3)) 3 #[.int .i64 1]
  rw [show (w.alloc (.cells #[.int .i64 3] 3)).heap.size = w.heap.size + 1 by simp] at k2
  have AD := hid_of (addA_any _ (hv.call hb) s L8 (h.call hb) l8_read (by decide) 3 1 _ l8_arr w.heap.size (w.heap.size + 1) (k1.cell 0) (k2.cell 0))
  have HB := hid_of hb
  clear hv h hb k1 k2
  go_enter Tryd.func10, Tryd.ntmps10
  go_wp2_with (go_at_call 12; refine AD.out.mono ?_; rintro e w2 ⟨s', T, rfl, hT, hO, hB2⟩)
  go_ret3
  exact ⟨s', T, rfl, hT, own_base hO HB.out.size, HB.out.trans (hB2.mono HB.out.size)⟩
/-- The last of nine types is of 12 bytes. -/
theorem nine_at {w : World} {s : Sl} {T : List Tt} (h : RdV w 7 s (L8.length + 1) (flat ttE (T ++ [⟨8, 3, 1, 0, ⟨none, 0, 0⟩, 12, 0, []⟩]))) (hT : T.map ct = L8.map ct) : ∃ g off, s.a = some ⟨g, off, none⟩ ∧ w.cell? ⟨g, off + 8 * 7 + 5, none⟩ = some (.int .i64 12) := by
  have hl : T.length = 8 := by have := congrArg List.length hT; simpa [L8] using this
  have h' : RdV w 7 s (T ++ [(⟨8, 3, 1, 0, ⟨none, 0, 0⟩, 12, 0, []⟩ : Tt)]).length (flat ttE (T ++ [⟨8, 3, 1, 0, ⟨none, 0, 0⟩, 12, 0, []⟩])) := by
    rw [List.length_append, hl]
    exact h
  obtain ⟨g, off, h1, _, h3⟩ := h'.elem (fun _ => rfl) 8 (by rw [List.length_append, hl]; decide)
  refine ⟨g, off, h1, h3 5 _ ?_⟩
  have e : (T ++ [(⟨8, 3, 1, 0, ⟨none, 0, 0⟩, 12, 0, []⟩ : Tt)])[8]'(by rw [List.length_append, hl]; decide) = ⟨8, 3, 1, 0, ⟨none, 0, 0⟩, 12, 0, []⟩ := by
    rw [List.getElem_append_right (by omega)]
    simp [hl]
  rw [e]
  rfl
set_option maxRecDepth 20000 in
set_option maxHeartbeats 4000000 in
theorem shown_any (w : World) (hv : Vs w) : Calls Tryd.prog 5 #[] w fun e w' => e = .returned (.bool true) ∧ Below w.heap.size w w' := by
  have BS := hid_of (basics_all w hv)
  have HV := hid_of hv
  clear hv
  go_enter Tryd.func5, Tryd.ntmps5
  go_wp2_with (first
    | (have hx := B1; clear hx; go_at_call 10; refine (addArr8 _ (HV.out.call B1.out.2) s (l8_in B1.out.1)).mono ?_; rintro e w2 ⟨s2, T, rfl, hT, hO, hB2⟩; have O2 := hid_of (own_rdv hO (by decide)); have TL := hid_of hT; have B2 := hid_of (B1.out.2.trans (hB2.mono B1.out.2.size)); obtain ⟨g, off, hga, hcell⟩ := nine_at O2.out TL.out; have hl9 := O2.out.len; clear hT hO hB2)
    | (go_at_call 11; refine BS.out.mono ?_; rintro e w1 ⟨s, rfl, hO, hB⟩; have B1 := hid_of (And.intro hO hB); clear hO hB))
  go_ret
  exact ⟨rfl, B2.out⟩
end Go.Proofs.YtgkfnfilomjphaaDoor
