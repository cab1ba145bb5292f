/-
  Layer 7: the writer, how it lies; what its small functions write.
-/
import Derived.Test.YtmfdomabegaidaaRobj
namespace Go.Proofs.Ytmfdomabegaidaa
set_option linter.unusedVariables false
set_option linter.unusedSimpArgs false
open Go.ChangeShapes Go.WideShapes Go.ChangeAt Go.RowKit

/-- A writer in block p, and the bytes that it has written. -/
structure Wr (X : World) (p B : Nat) (l : List Int) : Prop where
  lies : ∃ a n c, X.heap[p]? = some (.cells #[.slice a n c] 51 (0, 0)) ∧ Ow X B (.slice a n c) l
  lo : p < B
  hi : B ≤ X.heap.size
  few : l.length ≤ 1000000000
def PostY (w : World) (p B : Nat) (l : List Int) (e : Ending) (w' : World) : Prop := e = .returned (.tuple #[]) ∧ Wr w' p B l ∧ Tq w w' (fun k => k = p ∨ B ≤ k)
theorem Ow.set {X : World} {B p j : Nat} {v u : Value} {l : List Int} (h : Ow X B v l) (hp : p < B) : Ow (X.setCell ⟨p, j, none⟩ u) B v l := own_set h fun x hx => by have := own_lo h x hx; omega
/-- The row's new value is put into the writer's cell. -/
theorem Wr.put {w X : World} {p B : Nat} {l : List Int} {a : Option Addr} {n c : Nat} {cs : Array Value} (hX : X.heap[p]? = some (.cells #[.slice a n c] 51 (0, 0))) {v : Value} {a' : Option Addr} {n' c' : Nat} (hv : v = .slice a' n' c') (ho : Ow X B v l) (hb : Tq w X (fun k => k = p ∨ B ≤ k)) (lo : p < B) (hi : B ≤ w.heap.size) (few : l.length ≤ 1000000000) : Wr (X.setCell ⟨p, 0, none⟩ v) p B l ∧ Tq w (X.setCell ⟨p, 0, none⟩ v) (fun k => k = p ∨ B ≤ k) := by
  subst hv
  exact ⟨⟨⟨a', n', c', Go.Joins.block_setCell hX _, ho.set lo⟩, lo, by have := hb.size; simp; omega, few⟩, hb.trans (Tq.set (.inl rfl))⟩
theorem tq_of_below {w X : World} {B p : Nat} (h : Below B w X) : Tq w X (fun k => k = p ∨ B ≤ k) := ⟨h.os, h.tape, h.output, h.size, fun k hk hn => h.block k (by omega)⟩
set_option maxHeartbeats 2000000 in
theorem number_w (w : World) (p B : Nat) (l : List Int) (h : Wr w p B l) (n : Int) (n0 : 0 ≤ n) (n1 : n ≤ 4294967295) (hl : l.length ≤ 900000000) : Calls Try.prog 58 #[.pointer (some ⟨p, 0, none⟩), .int .i64 n] w (PostY w p B (l ++ numL 4 n)) := by
  obtain ⟨a, k, c, hb, ho⟩ := h.lies
  have lo := h.lo
  have hi := h.hi
  have A : Hid (Calls Try.prog 38 #[.slice a k c, .int .u32 n] w _) := addUint_any B _ l n w ho hi n0 n1 (by omega)
  have c0 : w.cell? ⟨p, 0, none⟩ = some (.slice a k c) := blk_cell hb 0
  have hlen := numL_len 4 n
  have PT : Hid (∀ X v, Ow X B v (l ++ numL 4 n) → Below B w X → ∃ a' n' c', v = .slice a' n' c' ∧ X.cell? ⟨p, 0, none⟩ = some (.slice a k c) ∧ X.frozen? ⟨p, 0, none⟩ = false ∧ Wr (X.setCell ⟨p, 0, none⟩ v) p B (l ++ numL 4 n) ∧ Tq w (X.setCell ⟨p, 0, none⟩ v) (fun k => k = p ∨ B ≤ k)) := fun X v hv hX => by
    obtain ⟨a', n', c', he⟩ := own_slice hv
    have hX0 := (hX.block p lo).trans hb
    obtain ⟨r1, r2⟩ := Wr.put (cs := #[]) hX0 he hv (tq_of_below hX) lo hi (by simp; omega)
    exact ⟨a', n', c', he, blk_cell hX0 0, blk_fz hX0 0, r1, r2⟩
  clear h hb ho
  go_enter Try.func58, Try.ntmps58
  go_wp2_with (go_at_call 38; (refine A.out.mono ?_; rintro e w1 ⟨v, rfl, ho1, hb1⟩; obtain ⟨a2, n2, c2, hv, k0, z0, r1, r2⟩ := PT.out w1 v ho1 hb1; subst hv; have R := hid_of (And.intro r1 r2); clear ho1 hb1 r1 r2))
  go_end0
  exact ⟨rfl, R.out⟩
set_option maxHeartbeats 2000000 in
theorem text_w (w : World) (p B : Nat) (l : List Int) (h : Wr w p B l) (s : ByteArray) (hs : s.size ≤ 1000) (hl : l.length ≤ 900000000) : Calls Try.prog 59 #[.pointer (some ⟨p, 0, none⟩), .string s] w (PostY w p B (l ++ textL s)) := by
  obtain ⟨a, k, c, hb, ho⟩ := h.lies
  have lo := h.lo
  have hi := h.hi
  have A : Hid (Calls Try.prog 108 #[.slice a k c, .string s] w _) := addText_any B _ l s w ho hi (by omega)
  have c0 : w.cell? ⟨p, 0, none⟩ = some (.slice a k c) := blk_cell hb 0
  have hlen : (textL s).length ≤ 1005 := by unfold textL; rw [List.length_append, sL_len]; have := numL_len 4 ((s.size : Int) % 4294967296); omega
  have PT : Hid (∀ X v, Ow X B v (l ++ textL s) → Below B w X → ∃ a' n' c', v = .slice a' n' c' ∧ X.cell? ⟨p, 0, none⟩ = some (.slice a k c) ∧ X.frozen? ⟨p, 0, none⟩ = false ∧ Wr (X.setCell ⟨p, 0, none⟩ v) p B (l ++ textL s) ∧ Tq w (X.setCell ⟨p, 0, none⟩ v) (fun k => k = p ∨ B ≤ k)) := fun X v hv hX => by
    obtain ⟨a', n', c', he⟩ := own_slice hv
    have hX0 := (hX.block p lo).trans hb
    obtain ⟨r1, r2⟩ := Wr.put (cs := #[]) hX0 he hv (tq_of_below hX) lo hi (by rw [List.length_append]; omega)
    exact ⟨a', n', c', he, blk_cell hX0 0, blk_fz hX0 0, r1, r2⟩
  clear h hb ho
  go_enter Try.func59, Try.ntmps59
  go_wp2_with (go_at_call 108; refine A.out.mono ?_; rintro e w1 ⟨v, rfl, ho1, hb1⟩; obtain ⟨a2, n2, c2, hv, k0, z0, r1, r2⟩ := PT.out w1 v ho1 hb1; subst hv; have R := hid_of (And.intro r1 r2); clear ho1 hb1 r1 r2)
  go_end0
  exact ⟨rfl, R.out⟩
attribute [local go_sem ↓] appN_seal
/-- A byte put behind a row of bytes. -/
theorem app_u8 {X : World} {B : Nat} {v : Value} {l : List Int} (x : Int) (h : Ow X B v l) (hB : B ≤ X.heap.size) (hn : l.length ≤ 1000000000) :
    ∃ (s : Sl) (Y : World), (appN #[35, 35] 35 #[v, .slice (some ⟨X.heap.size, 0, none⟩) 1 1]).run Try.prog (X.alloc (.cells #[.int .u8 x] 5)) = .ok (.slice s.a s.n s.c) Y ∧ Ow Y B (.slice s.a s.n s.c) (l ++ [x]) ∧ (X.alloc (.cells #[.int .u8 x] 5)).grownBy Y v.ownBlock := by
  obtain ⟨i0, hi0, hz0, hz1, hz2⟩ := info_parts info5
  have hbl : (X.alloc (.cells #[.int .u8 x] 5)).ownsRow B 5 1 v l.length (u8s l) := World.ownsRow.alloc h _
  obtain ⟨v', Y, h1, h2, h3, _⟩ := run_append_own (P := Try.prog) (w := X.alloc (.cells #[.int .u8 x] 5)) B 35 35 5 i0 _ 1 1 Try.underlying35 hi0 hz0 hz1 hz2 rfl (by decide) v l.length (u8s l) hbl ⟨X.heap.size, 0, none⟩ 1 1 [.int .u8 x] rfl (cell_one _ _ _) (by intro u hu; simp at hu; subst hu; rfl) (by unfold maxLen; omega) (by omega) (by simp; omega)
  obtain ⟨va, vn, vc, rfl⟩ := own_slice h2
  exact ⟨⟨va, vn, vc⟩, Y, h1, by unfold Ow; rw [List.length_append, u8s_app]; exact h2, h3⟩
set_option maxHeartbeats 2000000 in
theorem octet_w (w : World) (p B : Nat) (l : List Int) (h : Wr w p B l) (x : Int) (hl : l.length ≤ 900000000) : Calls Try.prog 74 #[.pointer (some ⟨p, 0, none⟩), .int .u8 x] w (PostY w p B (l ++ [x])) := by
  obtain ⟨a, k, c, hb, ho⟩ := h.lies
  have lo := h.lo
  have hi := h.hi
  have c0 : w.cell? ⟨p, 0, none⟩ = some (.slice a k c) := blk_cell hb 0
  obtain ⟨s, Y, hrun, hoY, hgr⟩ := app_u8 x ho hi (by omega)
  have t : Tq w Y (fun k => k = p ∨ B ≤ k) := tq_app hgr fun g hg => .inr (own_lo ho g hg)
  have hY : Y.heap[p]? = some (.cells #[.slice a k c] 51 (0, 0)) := (hgr.block p (by simp; omega) (fun e => by have := own_lo ho p e.symm; omega)).trans ((Below.heap_alloc _ _ _ (by omega)).trans hb)
  have k0 : Y.cell? ⟨p, 0, none⟩ = some (.slice a k c) := blk_cell hY 0
  have z0 := blk_fz hY 0
  have R := hid_of (Wr.put (cs := #[]) hY rfl hoY t lo hi (by rw [List.length_append]; simp; omega))
  clear h hb ho hoY hgr t hY
  go_enter Try.func74, Try.ntmps74
  go_wp2
  go_end0
  exact ⟨rfl, R.out⟩
theorem flag_w (w : World) (p B : Nat) (l : List Int) (h : Wr w p B l) (x : Bool) (hl : l.length ≤ 900000000) : Calls Try.prog 67 #[.pointer (some ⟨p, 0, none⟩), .bool x] w (PostY w p B (l ++ [if x then 1 else 0])) := by
  have O : Hid (∀ y, Calls Try.prog 74 #[.pointer (some ⟨p, 0, none⟩), .int .u8 y] w (PostY w p B (l ++ [y]))) := fun y => octet_w w p B l h y hl
  clear h
  cases x
  all_goals
    go_enter Try.func67, Try.ntmps67
    go_wp2_with (go_at_call 74; refine (O.out _).mono ?_; rintro e w1 ⟨rfl, hr⟩)
    go_end0
    exact ⟨rfl, hr⟩
end Go.Proofs.Ytmfdomabegaidaa
