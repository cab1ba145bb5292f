/-
  Layer 13: the writer writes a constant.
-/
import Derived.Test.YtcppgpcgbggdcaaDoorYwr
namespace Go.Proofs.YtcppgpcgbggdcaaDoor
set_option linter.unusedVariables false
set_option linter.unusedSimpArgs false
open Go.ChangeShapes Go.WideShapes Go.ChangeAt Go.RowKit

/-- What stands while something in a box of its own is written. -/
structure CI (w X : World) (p B : Nat) (ty : TypeId) (cs : Array Value) (l : List Int) : Prop where
  wr : Wr X p B l
  wk : Wk w X p
  bx : BA X w.heap.size ty cs
  wf : Wf X p w.heap.size
theorem Wr.plt {X : World} {p B : Nat} {l : List Int} (h : Wr X p B l) : p < X.heap.size := by obtain ⟨a, n, c, hb, _⟩ := h.lies; exact (Array.getElem?_eq_some_iff.1 hb).1
theorem Wr.below {X Y : World} {p B : Nat} {l : List Int} (h : Wr X p B l) (hb : Below X.heap.size X Y) : Wr Y p B l := by
  obtain ⟨a, n, c, h1, h2⟩ := h.lies
  exact ⟨⟨a, n, c, (hb.block p h.plt).trans h1, ⟨h2.1, h2.2.imp id fun ⟨g, cap, cur, e1, e2, e3, r⟩ => ⟨g, cap, cur, e1, e2, (hb.block g (Array.getElem?_eq_some_iff.1 e3).1).trans e3, r⟩⟩⟩, h.lo, Nat.le_trans h.hi hb.size, h.few⟩
theorem Wr.wfn {X : World} {p B : Nat} {l : List Int} (h : Wr X p B l) (o : Obj) : Wf (X.alloc o) p X.heap.size := by
  obtain ⟨a, n, c, h1, h2⟩ := h.lies
  intro a' n' c' e e2
  rw [Below.heap_alloc _ _ _ h.plt, h1] at e
  injection e with e; injection e with e _; injection e with e; injection e with e _
  rw [← e] at e2
  have := (World.ownsRow.lt h2 _ e2).2
  omega
theorem CI.start {w : World} {p B : Nat} {l : List Int} (h : Wr w p B l) (ty : TypeId) (cs : Array Value) : CI w (w.alloc (.cells cs ty)) p B ty cs l :=
  ⟨h.below ((Below.refl _ _).alloc (Nat.le_refl _) _), Wk.below h.plt ((Below.refl _ _).alloc (Nat.le_refl _) _), BA.new w _ _, h.wfn _⟩
theorem CI.step {w X Y : World} {p B : Nat} {ty : TypeId} {cs : Array Value} {l l2 : List Int} {e : Ending} (h : CI w X p B ty cs l) (hp : p < w.heap.size) (hz : PostZ X p B l2 e Y) : CI w Y p B ty cs l2 := by
  obtain ⟨_, h1, h2⟩ := hz
  obtain ⟨g1, g2⟩ := h2.blk w.heap.size h.bx.lt (by omega) h.wf
  exact ⟨h1, h.wk.trans h2, g1.trans h.bx, g2⟩
/-- A constant's bytes. -/
def consL (c : Cn) : List Int := textL c.nm ++ [c.ty] ++ (if c.ty = 7 then textL c.s else wdL (c.n % 4294967296))
theorem textL_len (s : ByteArray) : (textL s).length ≤ s.size + 5 := by unfold textL; rw [List.length_append, sL_len]; have := numL_len 4 ((s.size : Int) % 4294967296); omega
set_option maxHeartbeats 4000000 in
set_option maxRecDepth 20000 in
theorem constant_z (w : World) (p B : Nat) (l : List Int) (h : Wr w p B l) (c : Cn) (hn : c.nm.size ≤ 1000) (hs : c.s.size ≤ 1000) (t0 : 0 ≤ c.ty) (t1 : c.ty ≤ 255) (hl : l.length ≤ 800000000) : Calls Tryd.prog 59 #[.pointer (some ⟨p, 0, none⟩), .agg (cEnc c)] w (PostZ w p B (l ++ consL c)) := by
  have hp := h.plt
  have e1 := textL_len c.nm
  have e2 := textL_len c.s
  have H0 := hid_of (CI.start h 53 (cEnc c))
  have G1 : Hid (∀ X, CI w X p B 53 (cEnc c) l → Calls Tryd.prog 57 #[.pointer (some ⟨p, 0, none⟩), .string c.nm] X fun e Y => e = .returned (.tuple #[]) ∧ Y.cell? ⟨w.heap.size, 1, none⟩ = some (.int .i64 c.ty) ∧ Hid (CI w Y p B 53 (cEnc c) (l ++ textL c.nm))) := hid_of fun X hX => (text_z X p B l hX.wr c.nm hn (by omega)).mono fun e Y hh => ⟨hh.1, (hX.step hp hh).bx.cell 1, hX.step hp hh⟩
  have G2 : Hid (∀ X, CI w X p B 53 (cEnc c) (l ++ textL c.nm) → Calls Tryd.prog 61 #[.pointer (some ⟨p, 0, none⟩), .int .i64 c.ty] X fun e Y => e = .returned (.tuple #[]) ∧ Y.cell? ⟨w.heap.size, 1, none⟩ = some (.int .i64 c.ty) ∧ Y.cell? ⟨w.heap.size, 2, none⟩ = some (.int .i64 c.n) ∧ Y.cell? ⟨w.heap.size, 3, none⟩ = some (.string c.s) ∧ Hid (CI w Y p B 53 (cEnc c) (l ++ textL c.nm ++ [c.ty]))) := hid_of fun X hX => (octet_z X p B _ hX.wr c.ty t0 t1 (by rw [List.length_append]; omega)).mono fun e Y hh => ⟨hh.1, (hX.step hp hh).bx.cell 1, (hX.step hp hh).bx.cell 2, (hX.step hp hh).bx.cell 3, hX.step hp hh⟩
  by_cases h7 : c.ty = 7
  · have G3 : Hid (∀ X, CI w X p B 53 (cEnc c) (l ++ textL c.nm ++ [c.ty]) → Calls Tryd.prog 57 #[.pointer (some ⟨p, 0, none⟩), .string c.s] X fun e Y => e = .returned (.tuple #[]) ∧ Hid (CI w Y p B 53 (cEnc c) (l ++ consL c))) := hid_of fun X hX => (text_z X p B _ hX.wr c.s hs (by rw [List.length_append, List.length_append]; simp; omega)).mono fun e Y hh => ⟨hh.1, by have hq := hX.step hp hh; unfold consL; rw [if_pos h7, ← List.append_assoc, ← List.append_assoc]; exact hq⟩
    have d7 : (c.ty == 7) = true := by simpa using h7
    clear h h7 e1 e2 hn hs hl t0 t1
    unfold cEnc at H0 G1 G2 G3 ⊢
    go_enter Tryd.func59, Tryd.ntmps59
    go_wp2_with (first
      | (have hx := H2; clear hx; go_at_call 57; refine (G3.out _ H2.out).mono ?_; rintro e w3 ⟨rfl, H3⟩)
      | (go_at_call 61; refine (G2.out _ H1.out).mono ?_; rintro e w2 ⟨rfl, k1, k2, k3, H2⟩)
      | (go_at_call 57; refine (G1.out _ H0.out).mono ?_; rintro e w1 ⟨rfl, k1, H1⟩))
    refine bodyPost_ret (results_none rfl _ _ _) rfl ?_
    exact ⟨rfl, H3.out.wr, H3.out.wk⟩
  · have e3 : IntKind.u32.wrap c.n = c.n % 4294967296 := wrap_u32 c.n
    have G3 : Hid (∀ X, CI w X p B 53 (cEnc c) (l ++ textL c.nm ++ [c.ty]) → Calls Tryd.prog 82 #[.pointer (some ⟨p, 0, none⟩), .int .u32 (c.n % 4294967296)] X fun e Y => e = .returned (.tuple #[]) ∧ Hid (CI w Y p B 53 (cEnc c) (l ++ consL c))) := hid_of fun X hX => (word_z X p B _ hX.wr (c.n % 4294967296) (by rw [List.length_append, List.length_append]; simp; omega)).mono fun e Y hh => ⟨hh.1, by have hq := hX.step hp hh; unfold consL; rw [if_neg h7, ← List.append_assoc, ← List.append_assoc]; exact hq⟩
    have d7 : (c.ty == 7) = false := by simpa using h7
    clear h h7 e1 e2 hn hs hl t0 t1
    unfold cEnc at H0 G1 G2 G3 ⊢
    go_enter Tryd.func59, Tryd.ntmps59
    go_wp2_with (first
      | (go_at_call 82; refine (G3.out _ H2.out).mono ?_; rintro e w3 ⟨rfl, H3⟩)
      | (go_at_call 61; refine (G2.out _ H1.out).mono ?_; rintro e w2 ⟨rfl, k1, k2, k3, H2⟩)
      | (go_at_call 57; refine (G1.out _ H0.out).mono ?_; rintro e w1 ⟨rfl, k1, H1⟩))
    go_end0
    exact ⟨rfl, H3.out.wr, H3.out.wk⟩
end Go.Proofs.YtcppgpcgbggdcaaDoor
