/-
  Layer 13, the document's Encode: its steps.
  Layer 13, the document's Encode: right symbols.
  Layer 13: the document's Encode of symbols that may not be; both keys.
  Layer 13: right symbols are read from their bytes, from none with more behind, from none of their beginnings: the law's walk.
  Layer 13: all symbols are judged, written and keyed as the document says: the law's walk.
  Proved: for all symbols the law SymBytes returns true, where the table of sizes holds what its initialiser lays: symbols are judged, written and keyed as the document says. No other condition.
-/
import Derived.Test.YtfmkafbdjfakkaaDoorYdi
import Derived.Test.YtfmkafbdjfakkaaDoorYdj
import Derived.Test.YtfmkafbdjfakkaaDoorYbd
import Derived.Test.YtfmkafbdjfakkaaDoorYen
import Derived.Test.YtfmkafbdjfakkaaDoorMYcy
namespace Go.Proofs.YtfmkafbdjfakkaaDoor
set_option linter.unusedVariables false
set_option linter.unusedSimpArgs false
open Go.ChangeShapes Go.WideShapes Go.ChangeAt Go.RowKit
attribute [local go_sem ↓] ldC_seal stC_seal ldV_seal stV_seal ldP_seal stP_seal ldS_seal stS_seal appN_seal

theorem ow_below {w w' : World} {B : Nat} {v : Value} {l : List Int} (h : Ow w B v l) (hb : Below w.heap.size w w') : Ow w' B v l :=
  ⟨h.1, h.2.imp id fun ⟨g, cap, cur, e1, e2, e3, r⟩ => ⟨g, cap, cur, e1, e2, (hb.block g (Array.getElem?_eq_some_iff.1 e3).1).trans e3, r⟩⟩
theorem wd_u8s (v : Int) : bytesOf v 4 = u8s (wdL v) := rfl
/-- A word's bytes put behind a row of bytes. -/
theorem app_wd {X : World} {B : Nat} {v : Value} {l : List Int} (x : Int) (g c : Nat) (h : Ow X B v l) (hB : B ≤ X.heap.size) (hn : l.length ≤ 1000000000) (hc : ∀ j u, (u8s (wdL x))[j]? = some u → X.cell? ((⟨g, 0, none⟩ : Addr).add j) = some u) :
    ∃ (v' : Value) (Y : World), (appN #[30, 30] 30 #[v, .slice (some ⟨g, 0, none⟩) 4 c]).run Tryd.prog X = .ok v' Y ∧ Ow Y B v' (l ++ wdL x) ∧ Gr X v Y v' := by
  obtain ⟨i0, hi0, hz0, hz1, hz2⟩ := info_parts info5
  obtain ⟨v', Y, h1, h2, h3, _, h4⟩ := run_append_own_at (P := Tryd.prog) (w := X) B 30 30 5 i0 _ 1 1 Tryd.underlying30 hi0 hz0 hz1 hz2 rfl (by decide) v l.length (u8s l) h ⟨g, 0, none⟩ 4 c (u8s (wdL x)) rfl hc (u8s_one _) (by unfold maxLen; omega) (by omega) hB
  exact ⟨v', Y, h1, by unfold Ow; rw [List.length_append, u8s_app]; exact h2, Gr.of h3 h4⟩
/-- What stands while the document writes: the symbols in a box, another box, the bytes so far. -/
structure ED (w X : World) (c : Sc) (g : Nat) (ty : TypeId) (cs : Array Value) (v : Value) (l : List Int) : Prop where
  bx : BA X w.heap.size 26 c.cells
  b2 : BA X g ty cs
  be : Below w.heap.size w X
  ow : Ow X (w.heap.size + 1) v l
  by_ : AllB l
theorem ED.below {w X Y : World} {c : Sc} {g : Nat} {ty : TypeId} {cs : Array Value} {v : Value} {l : List Int} (h : ED w X c g ty cs v l) (hb : Below X.heap.size X Y) : ED w Y c g ty cs v l :=
  ⟨h.bx.below hb, h.b2.below hb, h.be.trans (hb.mono (Nat.le_of_lt h.bx.lt)), ow_below h.ow hb, h.by_⟩
/-- Another box. -/
theorem ED.box {w X : World} {c : Sc} {g g' : Nat} {ty ty' : TypeId} {cs cs' : Array Value} {v : Value} {l : List Int} (h : ED w X c g ty cs v l) (hb : BA X g' ty' cs') : ED w X c g' ty' cs' v l := ⟨h.bx, hb, h.be, h.ow, h.by_⟩
theorem ED.ne {w X : World} {c : Sc} {g : Nat} {ty : TypeId} {cs : Array Value} {v : Value} {l : List Int} (h : ED w X c g ty cs v l) (ht : ty ≠ 5) : v.ownBlock ≠ some g := by
  intro e
  rcases h.ow.2 with ⟨rfl, _⟩ | ⟨g2, cap, cur, rfl, e2, e3, _⟩
  · cases e
  · injection e with e
    subst e
    have := h.b2
    unfold BA at this
    rw [e3] at this
    injection this with this
    injection this with _ h3 _
    exact ht h3.symm
/-- The bytes put behind. -/
theorem ED.gr {w X Y : World} {c : Sc} {g : Nat} {ty : TypeId} {cs : Array Value} {v v' : Value} {l l' : List Int} (h : ED w X c g ty cs v l) (ht : ty ≠ 5) (ho : Ow Y (w.heap.size + 1) v' l') (hg : Gr X v Y v') (hb : AllB l') : ED w Y c g ty cs v' l' := by
  have hlt := h.bx.lt
  have hlo : ∀ k, k < w.heap.size + 1 → v.ownBlock ≠ some k := fun k hk e => by have := own_lo h.ow k e; omega
  have hs := hg.1.size
  exact ⟨(hg.1.block _ hlt (fun e => hlo _ (by omega) e.symm)).trans h.bx, (hg.1.block _ h.b2.lt (fun e => h.ne ht e.symm)).trans h.b2, ⟨hg.1.os.trans h.be.os, hg.1.tape.trans h.be.tape, hg.1.output.trans h.be.output, by have := h.be.size; omega, fun k hk => (hg.1.block k (Nat.lt_of_lt_of_le hk h.be.size) (fun e => hlo k (by omega) e.symm)).trans (h.be.block k hk)⟩, ho, hb⟩
theorem ED.new {w X Y : World} {c : Sc} {g : Nat} {ty : TypeId} {cs : Array Value} {v v' : Value} {l l' : List Int} (h : ED w X c g ty cs v l) (hb : Below X.heap.size X Y) (ho : Ow Y X.heap.size v' l') (hl : AllB l') : ED w Y c g ty cs v' l' :=
  ⟨h.bx.below hb, h.b2.below hb, h.be.trans (hb.mono (Nat.le_of_lt h.bx.lt)), own_base ho h.bx.lt, hl⟩
theorem ED.src {w X : World} {c : Sc} {g : Nat} {ty : TypeId} {cs : Array Value} {a : Option Addr} {n k : Nat} {l : List Int} (h : ED w X c g ty cs (.slice a n k) l) (hl : l.length ≤ 1000000) : Src X a n k (fun i => l.getD i 0) ∧ n = l.length ∧ bl (fun i => l.getD i 0) l.length = l := by
  obtain ⟨h1, h2, _⟩ := ow_src h.ow h.by_ (by omega)
  exact ⟨h1, h2, bl_lies (lies_self l)⟩
theorem ED.text {w X : World} {c : Sc} {g : Nat} {ty : TypeId} {cs : Array Value} {a : Option Addr} {n k : Nat} {l : List Int} (h : ED w X c g ty cs (.slice a n k) l) (hl : l.length ≤ 1000000) (s : ByteArray) (hs : s.size ≤ 1000) : Calls Tryd.prog 30 #[.slice a n k, .string s] X fun e Y => ∃ a n k, e = .returned (.slice a n k) ∧ ED w Y c g ty cs (.slice a n k) (l ++ textL s) := by
  obtain ⟨h1, h2, h3⟩ := h.src hl
  refine (rputText_any a n k _ s X h1 (by omega)).mono fun e Y hh => ?_
  obtain ⟨v', e1, e2, e3⟩ := hh
  rw [h2, h3] at e2
  obtain ⟨a2, n2, k2, rfl⟩ := own_slice e2
  exact ⟨a2, n2, k2, e1, h.new e3 e2 (h.by_.app (text_by s))⟩
theorem rput_any (a : Option Addr) (len cap : Nat) (f : Nat → Int) (n : Int) (w : World) (h : Src w a len cap f) (n0 : 0 ≤ n) (n1 : n ≤ 4294967295) : Calls Tryd.prog 31 #[.slice a len cap, .int .i64 n] w fun e w' => ∃ v', e = .returned v' ∧ Ow w' w.heap.size v' (bl f len ++ numL 4 n) ∧ Below w.heap.size w w' := by
  have e1 : IntKind.u32.wrap n = n := by rw [show IntKind.u32.wrap n = n % 4294967296 from wrap_u32 n]; omega
  have PU : Hid (Calls Tryd.prog 65 #[.slice a len cap, .int .u32 n] w fun e w' => ∃ v', e = .returned v' ∧ Hid (Ow w' w.heap.size v' (bl f len ++ numL 4 n) ∧ Below w.heap.size w w')) := hid_of (rputUint_any a len cap f n w h n0 n1)
  clear h
  go_enter Tryd.func31, Tryd.ntmps31
  go_wp2_with (go_at_call 65; refine PU.out.mono ?_; rintro e w1 ⟨v1, rfl, HV⟩)
  go_ret
  exact ⟨_, rfl, HV.out.1, HV.out.2⟩
theorem ED.num {w X : World} {c : Sc} {g : Nat} {ty : TypeId} {cs : Array Value} {a : Option Addr} {n k : Nat} {l : List Int} (h : ED w X c g ty cs (.slice a n k) l) (hl : l.length ≤ 1000000) (x : Int) (x0 : 0 ≤ x) (x1 : x ≤ 4294967295) : Calls Tryd.prog 31 #[.slice a n k, .int .i64 x] X fun e Y => ∃ a n k, e = .returned (.slice a n k) ∧ ED w Y c g ty cs (.slice a n k) (l ++ numL 4 x) := by
  obtain ⟨h1, h2, h3⟩ := h.src hl
  refine (rput_any a n k _ x X h1 x0 x1).mono fun e Y hh => ?_
  obtain ⟨v', e1, e2, e3⟩ := hh
  rw [h2, h3] at e2
  obtain ⟨a2, n2, k2, rfl⟩ := own_slice e2
  exact ⟨a2, n2, k2, e1, h.new e3 e2 (h.by_.app (num_by x x0 x1))⟩
theorem ED.byte {w X : World} {c : Sc} {g : Nat} {ty : TypeId} {cs : Array Value} {v : Value} {l : List Int} (h : ED w X c g ty cs v l) (ht : ty ≠ 5) (hl : l.length ≤ 1000000) (x : Int) (x0 : 0 ≤ x) (x1 : x ≤ 255) : ∃ a n k Y, (appN #[30, 30] 30 #[v, .slice (some ⟨X.heap.size, 0, none⟩) 1 1]).run Tryd.prog (X.alloc (.cells #[.int .u8 x] 5)) = .ok (.slice a n k) Y ∧ ED w Y c g ty cs (.slice a n k) (l ++ [x]) := by
  obtain ⟨v', Y, e1, e2, e3⟩ := app_u8z x h.ow h.bx.lt (by omega)
  obtain ⟨a2, n2, k2, rfl⟩ := own_slice e2
  exact ⟨a2, n2, k2, Y, e1, h.gr ht e2 e3 (h.by_.app (small_by x x0 x1))⟩
theorem app_two {X : World} {B : Nat} {v : Value} {l : List Int} (x y : Int) (h : Ow X B v l) (hB : B ≤ X.heap.size) (hn : l.length ≤ 1000000000) :
    ∃ (v' : Value) (Y : World), (appN #[30, 30] 30 #[v, .slice (some ⟨X.heap.size, 0, none⟩) 2 2]).run Tryd.prog (X.alloc (.cells #[.int .u8 x, .int .u8 y] 5)) = .ok v' Y ∧ Ow Y B v' (l ++ [x, y]) ∧ Gr X v Y v' := by
  obtain ⟨i0, hi0, hz0, hz1, hz2⟩ := info_parts info5
  have hbl : (X.alloc (.cells #[.int .u8 x, .int .u8 y] 5)).ownsRow B 5 1 v l.length (u8s l) := World.ownsRow.alloc h _
  have hc : ∀ j u, [Value.int .u8 x, .int .u8 y][j]? = some u → (X.alloc (.cells #[.int .u8 x, .int .u8 y] 5)).cell? ((⟨X.heap.size, 0, none⟩ : Addr).add j) = some u := fun j u hj => by
    rw [Go.WideShapes.add_plain, Nat.zero_add]
    have := blk_cell (blk_new X (.cells #[.int .u8 x, .int .u8 y] 5)) j
    rw [this]
    simpa using hj
  obtain ⟨v', Y, h1, h2, h3, _, h5⟩ := run_append_own_at (P := Tryd.prog) (w := X.alloc (.cells #[.int .u8 x, .int .u8 y] 5)) B 30 30 5 i0 _ 1 1 Tryd.underlying30 hi0 hz0 hz1 hz2 rfl (by decide) v l.length (u8s l) hbl ⟨X.heap.size, 0, none⟩ 2 2 [.int .u8 x, .int .u8 y] rfl hc (by intro u hu; simp at hu; rcases hu with rfl | rfl <;> rfl) (by unfold maxLen; omega) (by omega) (by simp; omega)
  exact ⟨v', Y, h1, by unfold Ow; rw [List.length_append, u8s_app]; exact h2, (Gr.alloc _ _ _).trans (Gr.of h3 h5)⟩
theorem ED.two {w X : World} {c : Sc} {g : Nat} {ty : TypeId} {cs : Array Value} {v : Value} {l : List Int} (h : ED w X c g ty cs v l) (ht : ty ≠ 5) (hl : l.length ≤ 1000000) (x y : Int) (x0 : 0 ≤ x) (x1 : x ≤ 255) (y0 : 0 ≤ y) (y1 : y ≤ 255) : ∃ a n k Y, (appN #[30, 30] 30 #[v, .slice (some ⟨X.heap.size, 0, none⟩) 2 2]).run Tryd.prog (X.alloc (.cells #[.int .u8 x, .int .u8 y] 5)) = .ok (.slice a n k) Y ∧ ED w Y c g ty cs (.slice a n k) (l ++ [x, y]) := by
  obtain ⟨v', Y, e1, e2, e3⟩ := app_two x y h.ow h.bx.lt (by omega)
  obtain ⟨a2, n2, k2, rfl⟩ := own_slice e2
  exact ⟨a2, n2, k2, Y, e1, h.gr ht e2 e3 (h.by_.app ((small_by x x0 x1).app (small_by y y0 y1)))⟩
theorem ED.word {w X : World} {c : Sc} {g : Nat} {ty : TypeId} {cs : Array Value} {v : Value} {l : List Int} (h : ED w X c g ty cs v l) (ht : ty ≠ 5) (hl : l.length ≤ 1000000) (x : Int) (x0 : 0 ≤ x) (x1 : x ≤ 4294967295) : Calls Tryd.prog 32 #[.int .u32 x] X fun e X' => ∃ q k2 a n k Y, e = .returned (.slice (some ⟨q, 0, none⟩) 4 k2) ∧ (appN #[30, 30] 30 #[v, .slice (some ⟨q, 0, none⟩) 4 k2]).run Tryd.prog X' = .ok (.slice a n k) Y ∧ ED w Y c g ty cs (.slice a n k) (l ++ wdL x) := by
  refine (rword_any x X x0 x1).mono fun e X' hh => ?_
  obtain ⟨y, h1, h2, h3⟩ := hh
  have h4 : Ow X' X.heap.size y (wdL x) := h2
  obtain ⟨q, k2, rfl, _, _⟩ := ow_at h4 (by simp [wdL])
  have hX := h.below h3
  obtain ⟨v', Y, r1, r2, r3⟩ := app_wd x q k2 hX.ow hX.bx.lt (by omega) (fun j u hj => World.ownsRow.cells h2 (g := q) rfl j u (by rw [wd_u8s]; exact hj))
  obtain ⟨a2, n2, k3, rfl⟩ := own_slice r2
  exact ⟨q, k2, a2, n2, k3, Y, h1, r1, hX.gr ht r2 r3 (h.by_.app (wd_by x))⟩
end Go.Proofs.YtfmkafbdjfakkaaDoor

namespace Go.Proofs.YtfmkafbdjfakkaaDoor
set_option linter.unusedVariables false
set_option linter.unusedSimpArgs false
open Go.ChangeShapes Go.WideShapes Go.ChangeAt Go.RowKit
attribute [local go_sem ↓] ldC_seal stC_seal ldV_seal stV_seal ldP_seal stP_seal ldS_seal stS_seal appN_seal

theorem box_con2 {w X : World} {s : Sl} {xs : List Cn} (h : RdV w 5 s xs.length (flat cEnc xs)) (hb : Below w.heap.size w X) (i : Nat) (hi : i < xs.length) : ∃ b off Z, s.a = some ⟨b, off, none⟩ ∧ (ldT 53 ⟨b, off + i * 5, none⟩).run Tryd.prog X = .ok (.agg (cEnc xs[i])) X ∧ (stT 53 ⟨X.heap.size, 0, none⟩ (.agg (cEnc xs[i]))).run Tryd.prog (X.alloc (.cells zeroC 53)) = .ok () Z ∧ Hid (BA Z X.heap.size 53 (cEnc xs[i]) ∧ Below X.heap.size X Z) := by
  obtain ⟨b, off, e1, _, e2⟩ := (h.below hb).elem (fun _ => rfl) i hi
  obtain ⟨Z, z1, z2, z3⟩ := stT_run (w := X.alloc (.cells zeroC 53)) (cEnc xs[i]) (BA.new X _ zeroC) rfl (by kernel_rfl) (by simp [cEnc, Value.oneCell'])
  exact ⟨b, off, Z, e1, ldT_mid e2 Tryd.underlying53 rfl (by kernel_rfl), z1, z2, ((Below.refl _ _).alloc (Nat.le_refl _) _).trans (z3.bel (by simp) (Nat.le_refl _))⟩
theorem box_prc2 {w X : World} {s : Sl} {xs : List (Pc × Sl)} (h : RdV w 3 s xs.length (flat pEnc xs)) (hb : Below w.heap.size w X) (i : Nat) (hi : i < xs.length) : ∃ b off Z, s.a = some ⟨b, off, none⟩ ∧ (ldT 63 ⟨b, off + i * 3, none⟩).run Tryd.prog X = .ok (.agg (pEnc xs[i])) X ∧ (stT 63 ⟨X.heap.size, 0, none⟩ (.agg (pEnc xs[i]))).run Tryd.prog (X.alloc (.cells zeroP 63)) = .ok () Z ∧ Hid (BA Z X.heap.size 63 (pEnc xs[i]) ∧ Below X.heap.size X Z) := by
  obtain ⟨b, off, e1, _, e2⟩ := (h.below hb).elem (fun _ => rfl) i hi
  obtain ⟨Z, z1, z2, z3⟩ := stT_run (w := X.alloc (.cells zeroP 63)) (pEnc xs[i]) (BA.new X _ zeroP) rfl (by kernel_rfl) (by simp [pEnc, Value.oneCell'])
  exact ⟨b, off, Z, e1, ldT_mid e2 Tryd.underlying63 rfl (by kernel_rfl), z1, z2, ((Below.refl _ _).alloc (Nat.le_refl _) _).trans (z3.bel (by simp) (Nat.le_refl _))⟩
/-- A variable's cells, whatever was made since. -/
theorem var_cells {w X : World} {s : Sl} {xs : List Vr} (h : RdV w 5 s xs.length (flat vEnc xs)) (i : Nat) (hi : i < xs.length) : ∃ b off, s.a = some ⟨b, off, none⟩ ∧ ∀ X, Below w.heap.size w X → X.cell? ⟨b, off + i * 5, none⟩ = some (.string xs[i].nm) ∧ X.cell? ⟨b, off + i * 5 + 1, none⟩ = some (.int .i64 xs[i].fm) ∧ X.cell? ⟨b, off + i * 5 + 2, none⟩ = some (.int .i64 xs[i].ln) ∧ X.cell? ⟨b, off + i * 5 + 3, none⟩ = some (.bool xs[i].op) ∧ X.cell? ⟨b, off + i * 5 + 4, none⟩ = some (.bool xs[i].rf) := by
  obtain ⟨b, off, e1, _, _⟩ := h.elem (fun _ => rfl) i hi
  refine ⟨b, off, e1, fun X hX => ?_⟩
  obtain ⟨b2, off2, e2, _, e3⟩ := (h.below hX).elem (fun _ => rfl) i hi
  rw [e1] at e2
  injection e2 with e2
  injection e2 with e2 e4
  subst e2 e4
  exact ⟨e3 0 _ rfl, e3 1 _ rfl, e3 2 _ rfl, e3 3 _ rfl, e3 4 _ rfl⟩
theorem ne53 : 53 ≠ 5 := by decide
theorem ne69 : 69 ≠ 5 := by decide
theorem ne63 : 63 ≠ 5 := by decide
theorem ne26 : 26 ≠ 5 := by decide
/-- The first of the loops: one constant. -/
theorem step_con {w Z : World} {c : Sc} {g : Nat} {a : Option Addr} {n k : Nat} {L : List Int} {x : Cn} (h : ED w Z c g 53 (cEnc x) (.slice a n k) L) (hL : L.length ≤ 900000) (hx : x.nm.size ≤ 20 ∧ x.s.size ≤ 200 ∧ 1 ≤ x.ty ∧ x.ty ≤ 7) : Calls Tryd.prog 30 #[.slice a n k, .string x.nm] Z fun e Y => ∃ a2 n2 k2, e = .returned (.slice a2 n2 k2) ∧ Y.cell? ⟨g, 1, none⟩ = some (.int .i64 x.ty) ∧ ∃ a3 n3 k3 Y2, (appN #[30, 30] 30 #[.slice a2 n2 k2, .slice (some ⟨Y.heap.size, 0, none⟩) 1 1]).run Tryd.prog (Y.alloc (.cells #[.int .u8 x.ty] 5)) = .ok (.slice a3 n3 k3) Y2 ∧ Y2.cell? ⟨g, 1, none⟩ = some (.int .i64 x.ty) ∧ Y2.cell? ⟨g, 2, none⟩ = some (.int .i64 x.n) ∧ Y2.cell? ⟨g, 3, none⟩ = some (.string x.s) ∧ Hid (ED w Y2 c g 53 (cEnc x) (.slice a3 n3 k3) (L ++ textL x.nm ++ [x.ty])) := by
  have ht := textL_len x.nm
  refine (h.text (by omega) x.nm (by omega)).mono fun e Y hh => ?_
  obtain ⟨a2, n2, k2, e1, h2⟩ := hh
  obtain ⟨a3, n3, k3, Y2, r, h3⟩ := h2.byte ne53 (by rw [List.length_append]; omega) x.ty (by omega) (by omega)
  exact ⟨a2, n2, k2, e1, h2.b2.cell 1, a3, n3, k3, Y2, r, h3.b2.cell 1, h3.b2.cell 2, h3.b2.cell 3, h3⟩
set_option maxHeartbeats 32000000 in
set_option maxRecDepth 20000 in
theorem rencode_yes (w : World) (c : Sc) (o : Sy) (l : List (Pc × Sl)) (hr : SyR w c o l) (hn : rightP o = true) : Calls Tryd.prog 12 #[.agg c.cells] w fun e w' => ∃ a n k, e = .returned (.tuple #[.slice a n k, .int .i64 0]) ∧ (∃ B, w.heap.size ≤ B ∧ Ow w' B (.slice a n k) (markL ++ symP o)) ∧ Below w.heap.size w w' := by
  have hi := in_right hn
  have b0 := BA.new w 26 c.cells
  have hb1 : Below w.heap.size w (w.alloc (.cells c.cells 26)) := (Below.refl _ _).alloc (Nat.le_refl _) _
  have q0 := ldT_run b0 Tryd.underlying26 rfl (by kernel_rfl)
  have RG : Hid (Calls Tryd.prog 16 #[.agg c.cells] (w.alloc (.cells c.cells 26)) fun e Y => e = .returned (.bool true) ∧ Hid (BA Y w.heap.size 26 c.cells ∧ Below w.heap.size w Y)) := hid_of ((rright_any _ c o l (hr.below hb1)).mono fun e Y hh => ⟨by rw [hh.1, hn], b0.below hh.2, hb1.trans (hh.2.mono hb1.size)⟩)
  have e1 := hr.cs.len
  have e2 := hr.vs.len
  have e3 := hr.ps.len
  have e4 : l.length = o.ps.length := by rw [← hr.pl, List.length_map]
  have ec : Hid (c.cs.n = o.cs.length) := e1
  have ev : Hid (c.vs.n = o.vs.length) := e2
  have ep : Hid (c.ps.n = l.length) := e3
  have g1 := hi.cl
  have g2 := hi.vl
  have g3 := hi.pl
  have b1 : c.cs.n ≤ 200 := by omega
  have b2 : c.vs.n ≤ 200 := by omega
  have b3 : c.ps.n ≤ 100 := by omega
  have hpm : ∀ x ∈ l, x.1 ∈ o.ps := fun x hx => by rw [← hr.pl]; exact List.mem_map.2 ⟨x, hx, rfl⟩
  have EC : Hid (∀ X, Below w.heap.size w X → ∀ i (hi : i < o.cs.length), ∃ b off Z, c.cs.a = some ⟨b, off, none⟩ ∧ (ldT 53 ⟨b, off + i * 5, none⟩).run Tryd.prog X = .ok (.agg (cEnc o.cs[i])) X ∧ (stT 53 ⟨X.heap.size, 0, none⟩ (.agg (cEnc o.cs[i]))).run Tryd.prog (X.alloc (.cells zeroC 53)) = .ok () Z ∧ Hid (BA Z X.heap.size 53 (cEnc o.cs[i]) ∧ Below X.heap.size X Z)) := hid_of fun X hX i hi => box_con2 hr.cs hX i hi
  have EV : Hid (∀ i (hi : i < o.vs.length), ∃ b off, c.vs.a = some ⟨b, off, none⟩ ∧ ∀ X, Below w.heap.size w X → X.cell? ⟨b, off + i * 5, none⟩ = some (.string o.vs[i].nm) ∧ X.cell? ⟨b, off + i * 5 + 1, none⟩ = some (.int .i64 o.vs[i].fm) ∧ X.cell? ⟨b, off + i * 5 + 2, none⟩ = some (.int .i64 o.vs[i].ln) ∧ X.cell? ⟨b, off + i * 5 + 3, none⟩ = some (.bool o.vs[i].op) ∧ X.cell? ⟨b, off + i * 5 + 4, none⟩ = some (.bool o.vs[i].rf)) := hid_of fun i hi => var_cells (X := w) hr.vs i hi
  have EP : Hid (∀ X, Below w.heap.size w X → ∀ i (hi : i < l.length), ∃ b off Z, c.ps.a = some ⟨b, off, none⟩ ∧ (ldT 63 ⟨b, off + i * 3, none⟩).run Tryd.prog X = .ok (.agg (pEnc l[i])) X ∧ (stT 63 ⟨X.heap.size, 0, none⟩ (.agg (pEnc l[i]))).run Tryd.prog (X.alloc (.cells zeroP 63)) = .ok () Z ∧ Hid (BA Z X.heap.size 63 (pEnc l[i]) ∧ Below X.heap.size X Z)) := hid_of fun X hX i hi => box_prc2 hr.ps hX i hi
  have EQ : Hid (∀ i (hi : i < l.length), RdV w 5 l[i].2 l[i].1.ps.length (flat vEnc l[i].1.ps)) := hid_of fun i hi => hr.pp _ (List.getElem_mem hi)
  have IC : Hid (∀ i (h : i < o.cs.length), o.cs[i].nm.size ≤ 20 ∧ o.cs[i].s.size ≤ 200 ∧ 1 ≤ o.cs[i].ty ∧ o.cs[i].ty ≤ 7) := hid_of fun i h => hi.cs _ (List.getElem_mem h)
  have IV : Hid (∀ i (h : i < o.vs.length), o.vs[i].nm.size ≤ 20 ∧ 0 ≤ o.vs[i].fm ∧ o.vs[i].fm ≤ 5 ∧ 0 ≤ o.vs[i].ln ∧ o.vs[i].ln ≤ 16384) := hid_of fun i h => hi.vs _ (List.getElem_mem h)
  have IP : Hid (∀ i (h : i < l.length), l[i].1.nm.size ≤ 20 ∧ l[i].1.ps.length ≤ 8 ∧ 0 ≤ l[i].1.rs ∧ l[i].1.rs ≤ 5 ∧ ∀ v ∈ l[i].1.ps, 1 ≤ v.fm ∧ v.fm ≤ 5) := hid_of fun i h => hi.ps _ (hpm _ (List.getElem_mem h))
  have S1 : Hid (∀ i, i ≤ o.cs.length → (sumL consL o.cs i).length ≤ 50000) := hid_of fun i h => by
    have := sumL_le consL 250 o.cs (fun x hx => consL_le x (hi.cs x hx).1 (hi.cs x hx).2.1) i h
    omega
  have S2 : Hid (∀ i, i ≤ o.vs.length → (sumL varL o.vs i).length ≤ 10000) := hid_of fun i h => by
    have := sumL_le varL 50 o.vs (fun x hx => varL_le x (hi.vs x hx).1) i h
    omega
  have S3 : Hid (∀ i, i ≤ l.length → (sumL prcL l i).length ≤ 6000) := hid_of fun i h => by
    have := sumL_le prcL 60 l (fun x hx => prcL_le x (hi.ps x.1 (hpm x hx)).1 (hi.ps x.1 (hpm x hx)).2.1) i h
    omega
  have SP : Hid (symP o = textL o.nm ++ numL 4 (o.cs.length : Int) ++ sumL consL o.cs o.cs.length ++ numL 4 (o.vs.length : Int) ++ sumL varL o.vs o.vs.length ++ numL 4 (l.length : Int) ++ sumL prcL l l.length) := hid_of (by rw [← symL_P hr.pl]; rfl)
  have hnm := hi.nm
  have hcn := hr.nm
  have ht0 := textL_len o.nm
  -- the mark and the name
  have MC : Hid (∀ X : World, (convert 30 30 (.slice (some ⟨X.heap.size, 0, none⟩) 4 4)).run Tryd.prog (X.alloc (.cells #[.int .u8 67, .int .u8 82, .int .u8 83, .int .u8 49] 5)) = .ok (.slice (some ⟨X.heap.size, 0, none⟩) 4 4) (X.alloc (.cells #[.int .u8 67, .int .u8 82, .int .u8 83, .int .u8 49] 5 (4, 5)))) := hid_of mk_conv
  have T0 : Hid (∀ X : World, BA X w.heap.size 26 c.cells ∧ Below w.heap.size w X → (X.alloc (.cells #[.int .u8 67, .int .u8 82, .int .u8 83, .int .u8 49] 5 (4, 5))).cell? ⟨w.heap.size, 0, none⟩ = some (.string o.nm) ∧ Calls Tryd.prog 30 #[.slice (some ⟨X.heap.size, 0, none⟩) 4 4, .string o.nm] (X.alloc (.cells #[.int .u8 67, .int .u8 82, .int .u8 83, .int .u8 49] 5 (4, 5))) fun e Y => ∃ a n k, e = .returned (.slice a n k) ∧ Y.cell? ⟨w.heap.size, 1, none⟩ = some (.slice c.cs.a c.cs.n c.cs.c) ∧ Hid (ED w Y c w.heap.size 26 c.cells (.slice a n k) (markL ++ textL o.nm))) := hid_of fun X hX => by
    have bx : Below X.heap.size X (X.alloc (.cells #[.int .u8 67, .int .u8 82, .int .u8 83, .int .u8 49] 5 (4, 5))) := (Below.refl _ _).alloc (Nat.le_refl _) _
    have hB := hX.1.below bx
    have hMk : MkB (X.alloc (.cells #[.int .u8 67, .int .u8 82, .int .u8 83, .int .u8 49] 5 (4, 5))) X.heap.size := blk_new X _
    refine ⟨by rw [← hcn]; exact hB.cell 0, ?_⟩
    have hsrc : Src (X.alloc (.cells #[.int .u8 67, .int .u8 82, .int .u8 83, .int .u8 49] 5 (4, 5))) (some ⟨X.heap.size, 0, none⟩) 4 4 (fun i => markL.getD i 0) := by
      refine ⟨⟨by unfold maxLen; omega, .inr ⟨X.heap.size, 0, rfl, fun i hi => ?_⟩⟩, (fun e => by cases e), by omega⟩
      have hc := hMk.cell i (.int .u8 (markL.getD i 0)) (by
        have : i = 0 ∨ i = 1 ∨ i = 2 ∨ i = 3 := by omega
        rcases this with rfl | rfl | rfl | rfl <;> rfl)
      rw [Go.WideShapes.add_plain] at hc
      refine ⟨hc, ?_⟩
      have : i = 0 ∨ i = 1 ∨ i = 2 ∨ i = 3 := by omega
      rcases this with rfl | rfl | rfl | rfl <;> decide
    refine (rputText_any _ 4 4 _ o.nm _ hsrc (by omega)).mono fun e Y hh => ?_
    obtain ⟨v', h1, h2, h3⟩ := hh
    obtain ⟨a2, n2, k2, rfl⟩ := own_slice h2
    have hY := hB.below h3
    have hw : Below w.heap.size w Y := (hX.2.trans (bx.mono hX.2.size)).trans (h3.mono (by have := hX.2.size; have := bx.size; omega))
    refine ⟨a2, n2, k2, h1, hY.cell 1, hid_of ⟨hY, hY, hw, own_base h2 hB.lt, mark_by.app (text_by _)⟩⟩
  clear hr hn hi b0 hb1 g1 g2 g3 e1 e2 e3 e4 hpm hcn
  go_enter Tryd.func12, Tryd.ntmps12
  go_wp2_with (first
    | (go_at_call 16; refine RG.out.mono ?_; rintro e w1 ⟨rfl, D1⟩; have q1 := MC.out w1; obtain ⟨q2, q3⟩ := T0.out w1 D1.out; have Q3 := hid_of q3; clear q3)
    | (go_at_call 30; refine Q3.out.mono ?_; rintro e w2 ⟨a, n, k, rfl, q4, D2⟩; have N2 := hid_of (D2.out.num (by rw [List.length_append]; have : markL.length = 4 := rfl; omega) (c.cs.n : Int) (by omega) (by omega)))
    | (go_at_call 31; refine N2.out.mono ?_; rintro e w3 ⟨a3, n3, k3, rfl, h3⟩; have D3 := hid_of h3; clear h3))
  obtain ⟨L1, hL1⟩ : ∃ L1, L1 = markL ++ textL o.nm ++ numL 4 (c.cs.n : Int) := ⟨_, rfl⟩
  have HL1 := hid_of hL1
  rw [← hL1] at D3
  have B1 : Hid (L1.length ≤ 100) := hid_of (by rw [hL1, List.length_append, List.length_append]; have : markL.length = 4 := rfl; have := numL_len 4 (c.cs.n : Int); omega)
  clear hL1 RG MC T0 Q3 N2 D2 D1 q1 q2 q4 ht0 hnm q0
  generalize o.cs = Cs at *
  generalize o.vs = Vv at *
  go_loopg [5, 6, 7] c.cs.n (fun gf t5 t6 t7 wx => ∃ (i : Nat) (va : Option Addr) (vn vc : Nat), t5 = .slice va vn vc ∧ t6 = .int .i64 (i : Int) ∧ i + gf = c.cs.n ∧ Hid (ED w wx c w.heap.size 26 c.cells (.slice va vn vc) (L1 ++ sumL consL Cs i)))
  case atStart => exact ⟨0, a3, n3, k3, rfl, rfl, by omega, hid_of (by simpa [sumL] using D3.out)⟩
  case round =>
    obtain ⟨i, va, vn, vc, rfl, rfl, hi, HS⟩ := hrel
    have q1 : wr.cell? ⟨w.heap.size, 1, none⟩ = some (.slice c.cs.a c.cs.n c.cs.c) := HS.out.bx.cell 1
    by_cases hlt : i < c.cs.n
    · obtain ⟨g', rfl⟩ : ∃ g', gk = g' + 1 := ⟨gk - 1, by omega⟩
      have d4 : decide ((i : Int) < (c.cs.n : Int)) = true := decide_eq_true (by omega)
      have j0 : (0 : Int) ≤ (i : Int) := by omega
      have j1 : (i : Int) < (c.cs.n : Int) := by omega
      have hil : i < Cs.length := by rw [← ec.out]; exact hlt
      obtain ⟨gb, off, Z, ha, k0, k1, HZ⟩ := EC.out wr HS.out.be i hil
      have DZ := (HS.out.below HZ.out.2).box HZ.out.1
      have hx := IC.out i hil
      have hle : (L1 ++ sumL consL Cs i).length ≤ 800000 := by rw [List.length_append]; have := S1.out i (by omega); have := B1.out; omega
      have HF : Hid (∀ Y a n k, ED w Y c wr.heap.size 53 (cEnc Cs[i]) (.slice a n k) (L1 ++ sumL consL Cs i ++ consL Cs[i]) → ED w Y c w.heap.size 26 c.cells (.slice a n k) (L1 ++ sumL consL Cs (i + 1))) := hid_of fun Y a n k h => by
        rw [sumL_succ consL Cs i hil, ← List.append_assoc]
        exact h.box h.bx
      generalize Cs[i] = x at k0 k1 HZ DZ hx HF
      have c0 : Z.cell? ⟨wr.heap.size, 0, none⟩ = some (.string x.nm) := HZ.out.1.cell 0
      have A1 := hid_of (step_con DZ (by omega) hx)
      have ht1 := textL_len x.nm
      by_cases h7 : x.ty = 7
      · have B7 : Hid (∀ Y a n k, ED w Y c wr.heap.size 53 (cEnc x) (.slice a n k) (L1 ++ sumL consL Cs i ++ textL x.nm ++ [x.ty]) → Calls Tryd.prog 30 #[.slice a n k, .string x.s] Y fun e Y2 => ∃ a n k, e = .returned (.slice a n k) ∧ Hid (ED w Y2 c w.heap.size 26 c.cells (.slice a n k) (L1 ++ sumL consL Cs (i + 1)))) := hid_of fun Y a n k h => (h.text (by simp only [List.length_append, List.length_cons, List.length_nil] at hle ⊢; omega) x.s (by omega)).mono fun e Y2 hh => by
          obtain ⟨a2, n2, k2, e1, h2⟩ := hh
          refine ⟨a2, n2, k2, e1, HF.out Y2 a2 n2 k2 ?_⟩
          unfold consL
          rw [if_pos h7, ← List.append_assoc, ← List.append_assoc]
          exact h2
        have d7 : (x.ty == 7) = true := by simpa using h7
        have t1 : 1 ≤ x.ty := hx.2.2.1
        have t2 : x.ty ≤ 7 := hx.2.2.2
        rw [ha] at q1
        clear hx hle HF DZ HZ HS ht1 h7 hil ha D3
        unfold cEnc zeroC at *
        obtain ⟨xnm, xty, xn, xs, xe⟩ := x
        dsimp only at *
        go_wp2_with (first
          | (go_at_call 30; have hh := H4; clear hh; refine (B7.out _ _ _ _ H4.out).mono ?_; rintro e w5 ⟨a5, n5, k5, rfl, H5⟩)
          | (go_at_call 30; refine A1.out.mono ?_; rintro e w4 ⟨a4, n4, k4, rfl, r1, a6, n6, k6, Y6, r2, r3, r4, r5, H4⟩))
        go_roundg g'
        case measure => omega
        case rel => exact ⟨i + 1, a5, n5, k5, rfl, by simp, by omega, H5.out⟩
      · have BW : Hid (∀ Y a n k, ED w Y c wr.heap.size 53 (cEnc x) (.slice a n k) (L1 ++ sumL consL Cs i ++ textL x.nm ++ [x.ty]) → Calls Tryd.prog 32 #[.int .u32 (x.n % 4294967296)] Y fun e X' => ∃ q k2 a3 n3 k3 Y2, e = .returned (.slice (some ⟨q, 0, none⟩) 4 k2) ∧ (appN #[30, 30] 30 #[.slice a n k, .slice (some ⟨q, 0, none⟩) 4 k2]).run Tryd.prog X' = .ok (.slice a3 n3 k3) Y2 ∧ Hid (ED w Y2 c w.heap.size 26 c.cells (.slice a3 n3 k3) (L1 ++ sumL consL Cs (i + 1)))) := hid_of fun Y a n k h => (h.word ne53 (by simp only [List.length_append, List.length_cons, List.length_nil] at hle ⊢; omega) (x.n % 4294967296) (by omega) (by omega)).mono fun e X' hh => by
          obtain ⟨q, k2, a3, n3, k3, Y2, e1, e2, h2⟩ := hh
          refine ⟨q, k2, a3, n3, k3, Y2, e1, e2, HF.out Y2 a3 n3 k3 ?_⟩
          unfold consL
          rw [if_neg h7, ← List.append_assoc, ← List.append_assoc]
          exact h2
        have d7 : (x.ty == 7) = false := by simpa using h7
        have t1 : 1 ≤ x.ty := hx.2.2.1
        have t2 : x.ty ≤ 7 := hx.2.2.2
        have u1 : IntKind.u32.wrap x.n = x.n % 4294967296 := wrap_u32 x.n
        rw [ha] at q1
        clear hx hle HF DZ HZ HS ht1 h7 hil ha D3
        unfold cEnc zeroC at *
        obtain ⟨xnm, xty, xn, xs, xe⟩ := x
        dsimp only at *
        go_wp2_with (first
          | (go_at_call 32; refine (BW.out _ _ _ _ H4.out).mono ?_; rintro e w5 ⟨q, k7, a5, n5, k5, Y7, rfl, r6, H5⟩)
          | (go_at_call 30; refine A1.out.mono ?_; rintro e w4 ⟨a4, n4, k4, rfl, r1, a6, n6, k6, Y6, r2, r3, r4, r5, H4⟩))
        go_roundg g'
        case measure => omega
        case rel => exact ⟨i + 1, a5, n5, k5, rfl, by simp, by omega, H5.out⟩
    · have d4 : decide ((i : Int) < (c.cs.n : Int)) = false := decide_eq_false (by omega)
      obtain rfl : i = Cs.length := by have := ec.out; omega
      obtain ⟨L2, hL2⟩ : ∃ L2, L2 = L1 ++ sumL consL Cs Cs.length ++ numL 4 (c.vs.n : Int) := ⟨_, rfl⟩
      have HL2 := hid_of hL2
      have hb2 : (L1 ++ sumL consL Cs Cs.length).length ≤ 60000 := by rw [List.length_append]; have := S1.out Cs.length (Nat.le_refl _); have := B1.out; omega
      have B2 : Hid (L2.length ≤ 70000) := hid_of (by rw [hL2, List.length_append]; have := numL_len 4 (c.vs.n : Int); omega)
      have q2 : wr.cell? ⟨w.heap.size, 2, none⟩ = some (.slice c.vs.a c.vs.n c.vs.c) := HS.out.bx.cell 2
      have N5 := hid_of (HS.out.num (by omega) (c.vs.n : Int) (by omega) (by omega))
      rw [← hL2] at N5
      clear HS EC IC S1 hb2 hL2 D3
      go_wp2_with (go_at_call 31; refine N5.out.mono ?_; rintro e w5 ⟨a5, n5, k5, rfl, h5⟩; have D5 := hid_of h5; clear h5)
      go_loopg [5, 8] c.vs.n (fun gf t5 t8 wx => ∃ (i : Nat) (va : Option Addr) (vn vc : Nat), t5 = .slice va vn vc ∧ t8 = .int .i64 (i : Int) ∧ i + gf = c.vs.n ∧ Hid (ED w wx c w.heap.size 26 c.cells (.slice va vn vc) (L2 ++ sumL varL Vv i)))
      case atStart => exact ⟨0, a5, n5, k5, rfl, rfl, by omega, hid_of (by simpa [sumL] using D5.out)⟩
      case round =>
        obtain ⟨i, va, vn, vc, rfl, rfl, hi, HS⟩ := hrel
        have q1 : wr.cell? ⟨w.heap.size, 2, none⟩ = some (.slice c.vs.a c.vs.n c.vs.c) := HS.out.bx.cell 2
        by_cases hlt : i < c.vs.n
        · obtain ⟨g', rfl⟩ : ∃ g', gk = g' + 1 := ⟨gk - 1, by omega⟩
          have d4 : decide ((i : Int) < (c.vs.n : Int)) = true := decide_eq_true (by omega)
          have j0 : (0 : Int) ≤ (i : Int) := by omega
          have j1 : (i : Int) < (c.vs.n : Int) := by omega
          have hil : i < Vv.length := by rw [← ev.out]; exact hlt
          obtain ⟨gb, off, ha, hc⟩ := EV.out i hil
          have hx := IV.out i hil
          have hle : (L2 ++ sumL varL Vv i).length ≤ 800000 := by rw [List.length_append]; have := S2.out i (by omega); have := B2.out; omega
          have HF : Hid (∀ Y a n k, ED w Y c w.heap.size 26 c.cells (.slice a n k) (L2 ++ sumL varL Vv i ++ textL Vv[i].nm ++ [Vv[i].fm] ++ numL 4 Vv[i].ln) → ED w Y c w.heap.size 26 c.cells (.slice a n k) (L2 ++ sumL varL Vv (i + 1))) := hid_of fun Y a n k h => by
            rw [sumL_succ varL Vv i hil, ← List.append_assoc]
            unfold varL
            rw [← List.append_assoc, ← List.append_assoc]
            exact h
          generalize Vv[i] = x at hc hx HF
          have ht1 := textL_len x.nm
          have c0 := (hc wr HS.out.be).1
          have A1 : Hid (Calls Tryd.prog 30 #[.slice va vn vc, .string x.nm] wr fun e Y => ∃ a2 n2 k2, e = .returned (.slice a2 n2 k2) ∧ Y.cell? ⟨w.heap.size, 2, none⟩ = some (.slice c.vs.a c.vs.n c.vs.c) ∧ Y.cell? ⟨gb, off + i * 5 + 1, none⟩ = some (.int .i64 x.fm) ∧ ∃ a3 n3 k3 Y2, (appN #[30, 30] 30 #[.slice a2 n2 k2, .slice (some ⟨Y.heap.size, 0, none⟩) 1 1]).run Tryd.prog (Y.alloc (.cells #[.int .u8 x.fm] 5)) = .ok (.slice a3 n3 k3) Y2 ∧ Y2.cell? ⟨w.heap.size, 2, none⟩ = some (.slice c.vs.a c.vs.n c.vs.c) ∧ Y2.cell? ⟨gb, off + i * 5 + 2, none⟩ = some (.int .i64 x.ln) ∧ Hid (ED w Y2 c w.heap.size 26 c.cells (.slice a3 n3 k3) (L2 ++ sumL varL Vv i ++ textL x.nm ++ [x.fm]))) := hid_of ((HS.out.text (by omega) x.nm (by omega)).mono fun e Y hh => by
            obtain ⟨a2, n2, k2, e1, h2⟩ := hh
            obtain ⟨a3, n3, k3, Y2, r, h3⟩ := h2.byte ne26 (by rw [List.length_append]; omega) x.fm (by omega) (by omega)
            exact ⟨a2, n2, k2, e1, h2.bx.cell 2, (hc Y h2.be).2.1, a3, n3, k3, Y2, r, h3.bx.cell 2, (hc Y2 h3.be).2.2.1, h3⟩)
          have B7 : Hid (∀ Y a n k, ED w Y c w.heap.size 26 c.cells (.slice a n k) (L2 ++ sumL varL Vv i ++ textL x.nm ++ [x.fm]) → Calls Tryd.prog 31 #[.slice a n k, .int .i64 x.ln] Y fun e Y2 => ∃ a n k, e = .returned (.slice a n k) ∧ Hid (ED w Y2 c w.heap.size 26 c.cells (.slice a n k) (L2 ++ sumL varL Vv (i + 1)))) := hid_of fun Y a n k h => (h.num (by simp only [List.length_append, List.length_cons, List.length_nil] at hle ⊢; omega) x.ln (by omega) (by omega)).mono fun e Y2 hh => by
            obtain ⟨a2, n2, k2, e1, h2⟩ := hh
            exact ⟨a2, n2, k2, e1, HF.out Y2 a2 n2 k2 h2⟩
          have t1 : 0 ≤ x.fm := hx.2.1
          have t2 : x.fm ≤ 5 := hx.2.2.1
          rw [ha] at q1 A1
          clear hx hle HF HS ht1 hil ha hc D5
          go_wp2_with (first
            | (go_at_call 31; refine (B7.out _ _ _ _ H4.out).mono ?_; rintro e w5 ⟨a5', n5', k5', rfl, H5⟩)
            | (go_at_call 30; refine A1.out.mono ?_; rintro e w4 ⟨a4, n4, k4, rfl, r0, r1, a6, n6, k6, Y6, r2, r3, r4, H4⟩))
          go_roundg g'
          case measure => omega
          case rel => exact ⟨i + 1, a5', n5', k5', rfl, by simp, by omega, H5.out⟩
        · have d4 : decide ((i : Int) < (c.vs.n : Int)) = false := decide_eq_false (by omega)
          obtain rfl : i = Vv.length := by have := ev.out; omega
          obtain ⟨L3, hL3⟩ : ∃ L3, L3 = L2 ++ sumL varL Vv Vv.length ++ numL 4 (c.ps.n : Int) := ⟨_, rfl⟩
          have HL3 := hid_of hL3
          have hb3 : (L2 ++ sumL varL Vv Vv.length).length ≤ 90000 := by rw [List.length_append]; have := S2.out Vv.length (Nat.le_refl _); have := B2.out; omega
          have B3 : Hid (L3.length ≤ 100000) := hid_of (by rw [hL3, List.length_append]; have := numL_len 4 (c.ps.n : Int); omega)
          have q2 : wr.cell? ⟨w.heap.size, 3, none⟩ = some (.slice c.ps.a c.ps.n c.ps.c) := HS.out.bx.cell 3
          have N7 := hid_of (HS.out.num (by omega) (c.ps.n : Int) (by omega) (by omega))
          rw [← hL3] at N7
          clear HS EV IV S2 hb3 hL3 D5
          go_wp2_with (go_at_call 31; refine N7.out.mono ?_; rintro e w7 ⟨a7, n7, k7, rfl, h7⟩; have D7 := hid_of h7; clear h7)
          go_loopg [5, 9, 10, 11, 12] c.ps.n (fun gf t5 t9 t10 t11 t12 wx => ∃ (i : Nat) (va : Option Addr) (vn vc : Nat), t5 = .slice va vn vc ∧ t9 = .int .i64 (i : Int) ∧ i + gf = c.ps.n ∧ Hid (ED w wx c w.heap.size 26 c.cells (.slice va vn vc) (L3 ++ sumL prcL l i)))
          case atStart => exact ⟨0, a7, n7, k7, rfl, rfl, by omega, hid_of (by simpa [sumL] using D7.out)⟩
          case round =>
            obtain ⟨i, va, vn, vc, rfl, rfl, hi, HS⟩ := hrel
            have q1 : wr.cell? ⟨w.heap.size, 3, none⟩ = some (.slice c.ps.a c.ps.n c.ps.c) := HS.out.bx.cell 3
            by_cases hlt : i < c.ps.n
            · obtain ⟨wo, rfl⟩ : ∃ wo, wo = wr := ⟨_, rfl⟩
              obtain ⟨g', rfl⟩ : ∃ g', gk = g' + 1 := ⟨gk - 1, by omega⟩
              have d4 : decide ((i : Int) < (c.ps.n : Int)) = true := decide_eq_true (by omega)
              have j0 : (0 : Int) ≤ (i : Int) := by omega
              have j1 : (i : Int) < (c.ps.n : Int) := by omega
              have hil : i < l.length := by rw [← ep.out]; exact hlt
              obtain ⟨gb, off, Z, ha, k0, k1, HZ⟩ := EP.out wo HS.out.be i hil
              have DZ := (HS.out.below HZ.out.2).box HZ.out.1
              have hx := IP.out i hil
              have hrd := EQ.out i hil
              have hle : (L3 ++ sumL prcL l i).length ≤ 800000 := by rw [List.length_append]; have := S3.out i (by omega); have := B3.out; omega
              have HF : Hid (∀ Y a n k, ED w Y c wo.heap.size 63 (pEnc l[i]) (.slice a n k) (L3 ++ sumL prcL l i ++ prcL l[i]) → ED w Y c w.heap.size 26 c.cells (.slice a n k) (L3 ++ sumL prcL l (i + 1))) := hid_of fun Y a n k h => by
                rw [sumL_succ prcL l i hil, ← List.append_assoc]
                exact h.box h.bx
              generalize l[i] = x at k0 k1 HZ DZ hx HF hrd
              obtain ⟨L4, hL4⟩ : ∃ L4, L4 = L3 ++ sumL prcL l i := ⟨_, rfl⟩
              rw [← hL4] at DZ HF hle
              have ht1 := textL_len x.1.nm
              obtain ⟨m, hm⟩ : ∃ m, m = x.1.ps.length := ⟨_, rfl⟩
              have hm8 : m ≤ 8 := by have := hx.2.1; omega
              have hsn : x.2.n = m := by rw [hm]; exact hrd.len
              obtain ⟨L5, hL5⟩ : ∃ L5, L5 = L4 ++ textL x.1.nm ++ numL 4 (m : Int) := ⟨_, rfl⟩
              have hl5 : L5.length ≤ 802000 := by rw [hL5]; simp only [List.length_append]; have := numL_len 4 (m : Int); have := hx.1; omega
              have hpar : ∀ j, j ≤ m → (sumL parL x.1.ps j).length ≤ 16 := fun j hj => by have := sumL_par x.1.ps j (by omega); omega
              have c0 : Z.cell? ⟨wo.heap.size, 0, none⟩ = some (.string x.1.nm) := HZ.out.1.cell 0
              have A1 : Hid (Calls Tryd.prog 30 #[.slice va vn vc, .string x.1.nm] Z fun e Y => ∃ a2 n2 k2, e = .returned (.slice a2 n2 k2) ∧ Y.cell? ⟨wo.heap.size, 1, none⟩ = some (.slice x.2.a m x.2.c) ∧ Hid (ED w Y c wo.heap.size 63 (pEnc x) (.slice a2 n2 k2) (L4 ++ textL x.1.nm))) := hid_of ((DZ.text (by omega) x.1.nm (by have := hx.1; omega)).mono fun e Y hh => by
                obtain ⟨a2, n2, k2, e1, h2⟩ := hh
                exact ⟨a2, n2, k2, e1, by rw [← hsn]; exact h2.b2.cell 1, h2⟩)
              have A2 : Hid (∀ Y a n k, ED w Y c wo.heap.size 63 (pEnc x) (.slice a n k) (L4 ++ textL x.1.nm) → Calls Tryd.prog 31 #[.slice a n k, .int .i64 (m : Int)] Y fun e Y2 => ∃ a n k, e = .returned (.slice a n k) ∧ Hid (ED w Y2 c wo.heap.size 63 (pEnc x) (.slice a n k) L5)) := hid_of fun Y a n k h => (h.num (by rw [List.length_append]; have := hx.1; omega) (m : Int) (by omega) (by omega)).mono fun e Y2 hh => by
                obtain ⟨a2, n2, k2, e1, h2⟩ := hh
                exact ⟨a2, n2, k2, e1, by rw [hL5]; exact h2⟩
              have PV : Hid (∀ j (hj : j < x.1.ps.length), ∃ b off, x.2.a = some ⟨b, off, none⟩ ∧ ∀ X, Below w.heap.size w X → X.cell? ⟨b, off + j * 5, none⟩ = some (.string x.1.ps[j].nm) ∧ X.cell? ⟨b, off + j * 5 + 1, none⟩ = some (.int .i64 x.1.ps[j].fm) ∧ X.cell? ⟨b, off + j * 5 + 2, none⟩ = some (.int .i64 x.1.ps[j].ln) ∧ X.cell? ⟨b, off + j * 5 + 3, none⟩ = some (.bool x.1.ps[j].op) ∧ X.cell? ⟨b, off + j * 5 + 4, none⟩ = some (.bool x.1.ps[j].rf)) := hid_of fun j hj => var_cells (X := w) hrd j hj
              have PB : Hid (∀ j (hj : j < x.1.ps.length), 1 ≤ x.1.ps[j].fm ∧ x.1.ps[j].fm ≤ 5) := hid_of fun j hj => hx.2.2.2.2 _ (List.getElem_mem hj)
              have AP : Hid (∀ Y a n k j (hj : j < x.1.ps.length), ED w Y c wo.heap.size 63 (pEnc x) (.slice a n k) (L5 ++ sumL parL x.1.ps j) → ∃ a2 n2 k2 Y2, (appN #[30, 30] 30 #[.slice a n k, .slice (some ⟨Y.heap.size, 0, none⟩) 2 2]).run Tryd.prog (Y.alloc (.cells #[.int .u8 x.1.ps[j].fm, .int .u8 (bitsI x.1.ps[j])] 5)) = .ok (.slice a2 n2 k2) Y2 ∧ Hid (ED w Y2 c wo.heap.size 63 (pEnc x) (.slice a2 n2 k2) (L5 ++ sumL parL x.1.ps (j + 1)))) := hid_of fun Y a n k j hj h => by
                have hp := PB.out j hj
                have hbb := bitsI_bd x.1.ps[j]
                obtain ⟨a2, n2, k2, Y2, r, h2⟩ := h.two ne63 (by rw [List.length_append]; have := hpar j (by omega); omega) x.1.ps[j].fm (bitsI x.1.ps[j]) (by omega) (by omega) (by omega) (by omega)
                refine ⟨a2, n2, k2, Y2, r, hid_of ?_⟩
                rw [sumL_succ parL x.1.ps j hj, ← List.append_assoc]
                exact h2
              have AR : Hid (∀ Y a n k, ED w Y c wo.heap.size 63 (pEnc x) (.slice a n k) (L5 ++ sumL parL x.1.ps m) → ∃ a2 n2 k2 Y2, (appN #[30, 30] 30 #[.slice a n k, .slice (some ⟨Y.heap.size, 0, none⟩) 1 1]).run Tryd.prog (Y.alloc (.cells #[.int .u8 x.1.rs] 5)) = .ok (.slice a2 n2 k2) Y2 ∧ Hid (ED w Y2 c w.heap.size 26 c.cells (.slice a2 n2 k2) (L3 ++ sumL prcL l (i + 1)))) := hid_of fun Y a n k h => by
                obtain ⟨a2, n2, k2, Y2, r, h2⟩ := h.byte ne63 (by rw [List.length_append]; have := hpar m (Nat.le_refl _); omega) x.1.rs (by have := hx.2.2.1; omega) (by have := hx.2.2.2.1; omega)
                refine ⟨a2, n2, k2, Y2, r, hid_of (HF.out Y2 a2 n2 k2 ?_)⟩
                unfold prcL
                rw [hL5, hm] at h2
                simp only [← List.append_assoc]
                exact h2
              have t1 : 0 ≤ x.1.rs := hx.2.2.1
              have t2 : x.1.rs ≤ 5 := hx.2.2.2.1
              have HM := hid_of hm
              have CB : Hid (∀ Y v L, ED w Y c wo.heap.size 63 (pEnc x) v L → Y.cell? ⟨wo.heap.size, 1, none⟩ = some (.slice x.2.a m x.2.c) ∧ Y.cell? ⟨wo.heap.size, 2, none⟩ = some (.int .i64 x.1.rs)) := hid_of fun Y v L h => ⟨by rw [← hsn]; exact h.b2.cell 1, h.b2.cell 2⟩
              rw [ha] at q1
              clear hx hle HF DZ HZ HS ht1 hil ha D7 hL5 hl5 hpar hm hsn hrd hL4
              generalize hpe : pEnc x = pe at k0 k1
              have HPE := hid_of hpe
              clear hpe
              unfold zeroP at k1
              go_wp2_with (first
                | (go_at_call 31; refine (A2.out _ _ _ _ H4.out).mono ?_; rintro e w5 ⟨a5', n5', k5', rfl, H5⟩)
                | (go_at_call 30; refine A1.out.mono ?_; rintro e w4 ⟨a4, n4, k4, rfl, r1, H4⟩))
              go_loopg [5, 11, 12] m (fun gf t5 t11 t12 wx => ∃ (j : Nat) (va2 : Option Addr) (vn2 vc2 : Nat), t5 = .slice va2 vn2 vc2 ∧ t11 = .int .i64 (j : Int) ∧ j + gf = m ∧ Hid (ED w wx c wo.heap.size 63 (pEnc x) (.slice va2 vn2 vc2) (L5 ++ sumL parL x.1.ps j)))
              case atStart => exact ⟨0, a5', n5', k5', rfl, rfl, by omega, hid_of (by simpa [sumL] using H5.out)⟩
              case round =>
                obtain ⟨j, va2, vn2, vc2, rfl, rfl, hj, HK⟩ := hrel
                have s1 := (CB.out wr _ _ HK.out).1
                by_cases hlk : j < m
                · obtain ⟨g2, rfl⟩ : ∃ g2, gk = g2 + 1 := ⟨gk - 1, by omega⟩
                  have f1 : decide ((j : Int) < (m : Int)) = true := decide_eq_true (by omega)
                  have f2 : (0 : Int) ≤ (j : Int) := by omega
                  have f3 : (j : Int) < (m : Int) := by omega
                  have hjl : j < x.1.ps.length := by rw [← HM.out]; exact hlk
                  obtain ⟨b5, off5, hb5, hc5⟩ := PV.out j hjl
                  obtain ⟨y0, y1, y2, y3, y4⟩ := hc5 wr HK.out.be
                  obtain ⟨a9, n9, k9, Y9, r9, H9⟩ := AP.out wr _ _ _ j hjl HK.out
                  have hp := PB.out j hjl
                  clear hc5
                  generalize x.1.ps[j] = y at y0 y1 y2 y3 y4 r9 hp
                  rw [hb5] at s1
                  obtain ⟨ynm, yfm, yln, yop, yrf⟩ := y
                  dsimp only at *
                  have p1 : 1 ≤ yfm := hp.1
                  have p2 : yfm ≤ 5 := hp.2
                  clear hp hjl HK hb5 AR
                  cases yop
                  · cases yrf
                    · rw [show bitsI ⟨ynm, yfm, yln, false, false⟩ = 0 from rfl] at r9
                      go_wp2
                      go_roundg g2
                      case measure => omega
                      case rel => exact ⟨j + 1, a9, n9, k9, rfl, by simp, by omega, H9.out⟩
                    · rw [show bitsI ⟨ynm, yfm, yln, false, true⟩ = 2 from rfl] at r9
                      go_wp2
                      go_roundg g2
                      case measure => omega
                      case rel => exact ⟨j + 1, a9, n9, k9, rfl, by simp, by omega, H9.out⟩
                  · cases yrf
                    · rw [show bitsI ⟨ynm, yfm, yln, true, false⟩ = 1 from rfl] at r9
                      go_wp2
                      go_roundg g2
                      case measure => omega
                      case rel => exact ⟨j + 1, a9, n9, k9, rfl, by simp, by omega, H9.out⟩
                    · rw [show bitsI ⟨ynm, yfm, yln, true, true⟩ = 3 from rfl] at r9
                      go_wp2
                      go_roundg g2
                      case measure => omega
                      case rel => exact ⟨j + 1, a9, n9, k9, rfl, by simp, by omega, H9.out⟩
                · have f1 : decide ((j : Int) < (m : Int)) = false := decide_eq_false (by omega)
                  obtain rfl : j = m := by omega
                  have s2 := (CB.out wr _ _ HK.out).2
                  obtain ⟨a9, n9, k9, Y9, r9, H9⟩ := AR.out wr _ _ _ HK.out
                  clear HK AP PV PB
                  go_wp2
                  go_roundg g'
                  case measure => omega
                  case rel => exact ⟨i + 1, a9, n9, k9, rfl, by simp, by omega, H9.out⟩
            · have d4 : decide ((i : Int) < (c.ps.n : Int)) = false := decide_eq_false (by omega)
              obtain rfl : i = l.length := by have := ep.out; omega
              have eL : L3 ++ sumL prcL l l.length = markL ++ symP o := by
                rw [SP.out, HL3.out, HL2.out, HL1.out, ec.out, ev.out, ep.out]
                simp only [List.append_assoc]
              rw [eL] at HS
              go_wp2
              go_ret2
              exact ⟨_, _, _, rfl, ⟨_, Nat.le_succ _, HS.out.ow⟩, HS.out.be⟩
end Go.Proofs.YtfmkafbdjfakkaaDoor

namespace Go.Proofs.YtfmkafbdjfakkaaDoor
set_option linter.unusedVariables false
set_option linter.unusedSimpArgs false
open Go.ChangeShapes Go.WideShapes Go.ChangeAt Go.RowKit
attribute [local go_sem ↓] ldS_seal stS_seal

set_option maxHeartbeats 4000000 in
set_option maxRecDepth 20000 in
theorem rencode_no (w : World) (c : Sc) (o : Sy) (ls : List (Pc × Sl)) (hr : SyR w c o ls) (hn : rightP o = false) : Calls Tryd.prog 12 #[.agg c.cells] w fun e w' => e = .returned (.tuple #[.slice none 0 0, .int .i64 130]) ∧ Below w.heap.size w w' := by
  have b0 := BA.new w 26 c.cells
  have hb1 : Below w.heap.size w (w.alloc (.cells c.cells 26)) := (Below.refl _ _).alloc (Nat.le_refl _) _
  have q0 := ldT_run b0 Tryd.underlying26 rfl (by kernel_rfl)
  have RG : Hid (Calls Tryd.prog 16 #[.agg c.cells] (w.alloc (.cells c.cells 26)) fun e Y => e = .returned (.bool false) ∧ Hid (Below w.heap.size w Y)) := hid_of ((rright_any _ c o ls (hr.below hb1)).mono fun e Y hh => ⟨by rw [hh.1, hn], hb1.trans (hh.2.mono hb1.size)⟩)
  clear hr hn b0 hb1
  go_enter Tryd.func12, Tryd.ntmps12
  go_wp2_with (go_at_call 16; refine RG.out.mono ?_; rintro e w1 ⟨rfl, D1⟩)
  go_ret2
  exact ⟨rfl, D1.out⟩
/-- The sum of symbols' bytes. -/
def keyI (o : Sy) : Int := fnv (fun i => (markL ++ symP o).getD i 0) (markL ++ symP o).length
set_option maxHeartbeats 4000000 in
set_option maxRecDepth 20000 in
theorem key_any (w : World) (hv : Vs w) (c : Sc) (o : Sy) (ls : List (Pc × Sl)) (hr : SyR w c o ls) : Calls Tryd.prog 13 #[.agg c.cells] w fun e w' => e = .returned (.tuple (if rightP o then #[.int .u32 (keyI o), .int .i64 0] else #[.int .u32 0, .int .i64 130])) ∧ Below w.heap.size w w' := by
  have b0 := BA.new w 26 c.cells
  have hb1 : Below w.heap.size w (w.alloc (.cells c.cells 26)) := (Below.refl _ _).alloc (Nat.le_refl _) _
  have q0 := ldT_run b0 Tryd.underlying26 rfl (by kernel_rfl)
  cases hn : rightP o
  · have EN : Hid (Calls Tryd.prog 11 #[.agg c.cells] (w.alloc (.cells c.cells 26)) fun e Y => e = .returned (.tuple #[.slice none 0 0, .int .i64 130]) ∧ Hid (Below w.heap.size w Y)) := hid_of ((encode_no _ (hv.below hb1 hv.big) c o ls (hr.below hb1) hn).mono fun e Y hh => ⟨hh.1, hb1.trans (hh.2.mono hb1.size)⟩)
    clear hr hv b0 hb1
    go_enter Tryd.func13, Tryd.ntmps13
    go_wp2_with (go_at_call 11; refine EN.out.mono ?_; rintro e w1 ⟨rfl, D1⟩)
    go_ret2
    exact ⟨rfl, D1.out⟩
  · have hle := symP_le hn
    have hby : AllB (markL ++ symP o) := mark_by.app (symP_by hn)
    have EN : Hid (Calls Tryd.prog 11 #[.agg c.cells] (w.alloc (.cells c.cells 26)) fun e Y => ∃ a n k, e = .returned (.tuple #[.slice a n k, .int .i64 0]) ∧ Hid (Calls Tryd.prog 33 #[.slice a n k] Y fun e2 Y2 => e2 = .returned (.int .u32 (keyI o)) ∧ Y2 = Y) ∧ Hid (Below w.heap.size w Y)) := hid_of ((encode_yes _ (hv.below hb1 hv.big) c o ls (hr.below hb1) hn).mono fun e Y hh => by
      obtain ⟨a, n, k, e1, ⟨B, _, h2⟩, h3⟩ := hh
      obtain ⟨s1, s2, _⟩ := ow_src h2 hby (by rw [List.length_append, show markL.length = 4 from rfl]; omega)
      refine ⟨a, n, k, e1, hid_of ?_, hb1.trans (h3.mono hb1.size)⟩
      have := sum_any a n k _ Y s1.rd
      unfold keyI
      rw [← s2]
      exact this)
    clear hr hv b0 hb1 hle hby
    go_enter Tryd.func13, Tryd.ntmps13
    go_wp2_with (first
      | (go_at_call 33; refine SM.out.mono ?_; rintro e w2 ⟨rfl, hw⟩; rw [hw]; clear hw)
      | (go_at_call 11; refine EN.out.mono ?_; rintro e w1 ⟨a, n, k, rfl, SM, D1⟩))
    go_ret2
    exact ⟨rfl, D1.out⟩
set_option maxHeartbeats 4000000 in
set_option maxRecDepth 20000 in
theorem rkey_any (w : World) (c : Sc) (o : Sy) (ls : List (Pc × Sl)) (hr : SyR w c o ls) : Calls Tryd.prog 14 #[.agg c.cells] w fun e w' => e = .returned (.tuple (if rightP o then #[.int .u32 (keyI o), .int .i64 0] else #[.int .u32 0, .int .i64 130])) ∧ Below w.heap.size w w' := by
  have b0 := BA.new w 26 c.cells
  have hb1 : Below w.heap.size w (w.alloc (.cells c.cells 26)) := (Below.refl _ _).alloc (Nat.le_refl _) _
  have q0 := ldT_run b0 Tryd.underlying26 rfl (by kernel_rfl)
  cases hn : rightP o
  · have EN : Hid (Calls Tryd.prog 12 #[.agg c.cells] (w.alloc (.cells c.cells 26)) fun e Y => e = .returned (.tuple #[.slice none 0 0, .int .i64 130]) ∧ Hid (Below w.heap.size w Y)) := hid_of ((rencode_no _ c o ls (hr.below hb1) hn).mono fun e Y hh => ⟨hh.1, hb1.trans (hh.2.mono hb1.size)⟩)
    clear hr b0 hb1
    go_enter Tryd.func14, Tryd.ntmps14
    go_wp2_with (go_at_call 12; refine EN.out.mono ?_; rintro e w1 ⟨rfl, D1⟩)
    go_ret2
    exact ⟨rfl, D1.out⟩
  · have hle := symP_le hn
    have hby : AllB (markL ++ symP o) := mark_by.app (symP_by hn)
    have EN : Hid (Calls Tryd.prog 12 #[.agg c.cells] (w.alloc (.cells c.cells 26)) fun e Y => ∃ a n k, e = .returned (.tuple #[.slice a n k, .int .i64 0]) ∧ Hid (Calls Tryd.prog 34 #[.slice a n k] Y fun e2 Y2 => e2 = .returned (.int .u32 (keyI o)) ∧ Y2 = Y) ∧ Hid (Below w.heap.size w Y)) := hid_of ((rencode_yes _ c o ls (hr.below hb1) hn).mono fun e Y hh => by
      obtain ⟨a, n, k, e1, ⟨B, _, h2⟩, h3⟩ := hh
      obtain ⟨s1, s2, _⟩ := ow_src h2 hby (by rw [List.length_append, show markL.length = 4 from rfl]; omega)
      refine ⟨a, n, k, e1, hid_of ?_, hb1.trans (h3.mono hb1.size)⟩
      have := rsum_any a n k _ Y s1.rd
      unfold keyI
      rw [← s2]
      exact this)
    clear hr b0 hb1 hle hby
    go_enter Tryd.func14, Tryd.ntmps14
    go_wp2_with (first
      | (go_at_call 34; refine SM.out.mono ?_; rintro e w2 ⟨rfl, hw⟩; rw [hw]; clear hw)
      | (go_at_call 12; refine EN.out.mono ?_; rintro e w1 ⟨a, n, k, rfl, SM, D1⟩))
    go_ret2
    exact ⟨rfl, D1.out⟩
end Go.Proofs.YtfmkafbdjfakkaaDoor

namespace Go.Proofs.YtfmkafbdjfakkaaDoor
set_option linter.unusedVariables false
set_option linter.unusedSimpArgs false
open Go.ChangeShapes Go.WideShapes Go.ChangeAt Go.RowKit Go.Shelf
attribute [local go_sem ↓] ldS_seal stS_seal appN_seal mkN_seal

/-- Symbols that were handed in, in a box. -/
structure DB (w X : World) (c : Sc) (o : Sy) (l : List (Pc × Sl)) : Prop where
  bx : BA X w.heap.size 26 c.cells
  rd : SyR X c o l
  be : Below w.heap.size w X
  vs : Vs X
theorem DB.below {w X Y : World} {c : Sc} {o : Sy} {l : List (Pc × Sl)} (h : DB w X c o l) (hb : Below X.heap.size X Y) : DB w Y c o l := ⟨h.bx.below hb, h.rd.below hb, h.be.trans (hb.mono (Nat.le_of_lt h.bx.lt)), h.vs.below hb h.vs.big⟩
theorem DB.start {w : World} {c : Sc} {o : Sy} {l : List (Pc × Sl)} (h : SyR w c o l) (hv : Vs w) : DB w (w.alloc (.cells c.cells 26)) c o l := by
  have hb : Below w.heap.size w (w.alloc (.cells c.cells 26)) := (Below.refl _ _).alloc (Nat.le_refl _) _
  exact ⟨BA.new w _ _, h.below hb, hb, hv.below hb hv.big⟩
theorem DB.ld {w X : World} {c : Sc} {o : Sy} {l : List (Pc × Sl)} (h : DB w X c o l) : (ldT 26 ⟨w.heap.size, 0, none⟩).run Tryd.prog X = .ok (.agg c.cells) X := ldT_run h.bx Tryd.underlying26 rfl (by kernel_rfl)
set_option maxHeartbeats 4000000 in
set_option maxRecDepth 20000 in
theorem back_no (w : World) (hv : Vs w) (c : Sc) (o : Sy) (l : List (Pc × Sl)) (h : SyR w c o l) (hn : rightP o = false) (cut : Int) (ma : Option Addr) (m mc : Nat) : Calls Tryd.prog 6 #[.agg c.cells, .int .i64 cut, .slice ma m mc] w fun e w' => e = .returned (.bool true) ∧ Below w.heap.size w w' := by
  have D0 := hid_of (DB.start h hv)
  have SH : Hid (∀ X, DB w X c o l → Calls Tryd.prog 8 #[] X fun e Y => e = .returned (.bool true) ∧ DB w Y c o l) := hid_of fun X hX => (shown_any X hX.vs).mono fun e Y hh => ⟨hh.1, hX.below hh.2⟩
  have RG : Hid (∀ X, DB w X c o l → Calls Tryd.prog 10 #[.agg c.cells] X fun e Y => e = .returned (.bool false) ∧ DB w Y c o l) := hid_of fun X hX => (right_any X hX.vs c o l hX.rd).mono fun e Y hh => ⟨by rw [hh.1, rightS_P hX.rd.pl, hn], hX.below hh.2⟩
  have EN : Hid (∀ X, DB w X c o l → Calls Tryd.prog 11 #[.agg c.cells] X fun e Y => e = .returned (.tuple #[.slice none 0 0, .int .i64 130]) ∧ DB w Y c o l) := hid_of fun X hX => (encode_no X hX.vs c o l hX.rd hn).mono fun e Y hh => ⟨hh.1, hX.below hh.2⟩
  clear h hn hv
  go_enter Tryd.func6, Tryd.ntmps6
  go_wp2_with (first
    | (go_at_call 8; refine (SH.out _ D0.out).mono ?_; rintro e w1 ⟨rfl, d1⟩; have D1 := hid_of d1; have l1 := d1.ld; clear d1)
    | (go_at_call 10; refine (RG.out _ D1.out).mono ?_; rintro e w2 ⟨rfl, d2⟩; have D2 := hid_of d2; have l2 := d2.ld; clear d2)
    | (go_at_call 11; refine (EN.out _ D2.out).mono ?_; rintro e w3 ⟨rfl, d3⟩))
  go_ret
  exact ⟨rfl, d3.be⟩
/-- Both symbols, and what was written. -/
structure BB (w Z : World) (ga : Nat) (c c2 : Sc) (o : Sy) (l l2 : List (Pc × Sl)) : Prop where
  di : DB w Z c o l
  bp : BA Z ga 26 c2.cells
  rp : SyR Z c2 o l2
theorem BB.below {w Z Y : World} {ga : Nat} {c c2 : Sc} {o : Sy} {l l2 : List (Pc × Sl)} (h : BB w Z ga c c2 o l l2) (hb : Below Z.heap.size Z Y) : BB w Y ga c c2 o l l2 := ⟨h.di.below hb, h.bp.below hb, h.rp.below hb⟩
theorem BB.ld {w X : World} {ga : Nat} {c c2 : Sc} {o : Sy} {l l2 : List (Pc × Sl)} (h : BB w X ga c c2 o l l2) : (ldT 26 ⟨ga, 0, none⟩).run Tryd.prog X = .ok (.agg c2.cells) X := ldT_run h.bp Tryd.underlying26 rfl (by kernel_rfl)
theorem SyAt.rdi {X : World} {B : Nat} {c : Sc} {o : Sy} (h : SyAt X B c o) (hi : In o) : ∃ l, SyR X c o l := by
  obtain ⟨l, h1, h2, h3⟩ := h.ps
  have c4 : l.length = o.ps.length := by rw [← h1, List.length_map]
  have hp : ∀ x ∈ l, x.1 ∈ o.ps := fun x hx => by rw [← h1]; exact List.mem_map.2 ⟨x, hx, rfl⟩
  have k1 := hi.cl
  have k2 := hi.vl
  have k3 := hi.pl
  have k4 := hi.nm
  exact ⟨l, h.nm, own_rdv h.cs (by omega), own_rdv h.vs (by omega), h1, own_rdv h2 (by omega), fun p hq => own_rdv (h3 p hq) (by have := (hi.ps _ (hp p hq)).2.1; omega), by omega, fun x hx => by have := (hi.cs x hx).1; omega, fun x hx => by have := (hi.vs x hx).1; omega, fun x hx => by have := (hi.ps _ (hp x hx)).1; omega⟩
set_option maxHeartbeats 16000000 in
set_option maxRecDepth 20000 in
theorem back_neg (w : World) (hv : Vs w) (c : Sc) (o : Sy) (l : List (Pc × Sl)) (h : SyR w c o l) (hn : rightP o = true) (cut : Int) (ma : Option Addr) (m mc : Nat) (fm : Nat → Int) (hm : Src w ma m mc fm) (hcut : cut < 0) : Calls Tryd.prog 6 #[.agg c.cells, .int .i64 cut, .slice ma m mc] w fun e w' => e = .returned (.bool true) ∧ Below w.heap.size w w' := by
  have hi := in_right hn
  have hbl := symP_le hn
  have hbyt : AllB (markL ++ symP o) := mark_by.app (symP_by hn)
  obtain ⟨L0, hL0⟩ : ∃ L0, L0 = markL ++ symP o := ⟨_, rfl⟩
  obtain ⟨E, hE⟩ : ∃ E, E = 4 + (symP o).length := ⟨_, rfl⟩
  have hEL : L0.length = E := by rw [hL0, List.length_append, show markL.length = 4 from rfl, hE]
  have hE0 : 0 < E := by omega
  have hEm : E ≤ 100004 := by omega
  have hmm : m ≤ 140737488351232 := hm.fit
  have D0 := hid_of (DB.start h hv)
  have SH : Hid (∀ X, DB w X c o l → Calls Tryd.prog 8 #[] X fun e Y => e = .returned (.bool true) ∧ DB w Y c o l) := hid_of fun X hX => (shown_any X hX.vs).mono fun e Y hh => ⟨hh.1, hX.below hh.2⟩
  have RG : Hid (∀ X, DB w X c o l → Calls Tryd.prog 10 #[.agg c.cells] X fun e Y => e = .returned (.bool true) ∧ DB w Y c o l) := hid_of fun X hX => (right_any X hX.vs c o l hX.rd).mono fun e Y hh => ⟨by rw [hh.1, rightS_P hX.rd.pl, hn], hX.below hh.2⟩
  have EN : Hid (∀ X, DB w X c o l → Calls Tryd.prog 11 #[.agg c.cells] X fun e Y => ∃ g k, e = .returned (.tuple #[.slice (some ⟨g, 0, none⟩) E k, .int .i64 0]) ∧ E ≤ k ∧ Hid ((∃ B, Ow Y B (.slice (some ⟨g, 0, none⟩) E k) L0) ∧ DB w Y c o l)) := hid_of fun X hX => (encode_yes X hX.vs c o l hX.rd hn).mono fun e Y hh => by
    obtain ⟨a, n, k, h1, ⟨B, _, h2⟩, h3⟩ := hh
    rw [← hL0] at h2
    obtain ⟨g, k2, hv, _, _⟩ := ow_at h2 (fun e => by rw [e] at hEL; simp at hEL; omega)
    rw [hEL] at hv
    rw [hv] at h1 h2
    injection hv with _ _ hk
    obtain ⟨_, _, h9⟩ := ow_src h2 (by rw [hL0]; exact hbyt) (by omega)
    exact ⟨g, k2, h1, h9, ⟨B, h2⟩, hX.below h3⟩
  have hlies : Lies (fun i => L0.getD i 0) 0 (markL ++ symP o) := by rw [hL0]; exact lies_self _
  have DC : Hid (∀ Y g k, (∃ B, Ow Y B (.slice (some ⟨g, 0, none⟩) E k) L0) ∧ DB w Y c o l → Calls Tryd.prog 17 #[.slice (some ⟨g, 0, none⟩) E k] Y fun e V => ∃ c2 l2 Z, e = .returned (.tuple #[.agg (Sc.cells c2), .int .i64 0, .int .i64 0]) ∧ (stT 26 ⟨V.heap.size, 0, none⟩ (.agg c2.cells)).run Tryd.prog (V.alloc (.cells Sc.zero.cells 26)) = .ok () Z ∧ Hid (BB w Z V.heap.size c c2 o l l2 ∧ Src Z (some ⟨g, 0, none⟩) E k (fun i => L0.getD i 0))) := hid_of fun Y g k hY => by
    obtain ⟨⟨B, ho⟩, hD⟩ := hY
    have hb0 : AllB L0 := by rw [hL0]; exact hbyt
    obtain ⟨s1, s2, s3⟩ := ow_src ho hb0 (by omega)
    refine (decode_own hD.vs ho hb0 (by omega)).mono fun e V hh => ?_
    obtain ⟨p1, p2⟩ := dec_of hn hlies
    rw [← hE, ← hEL] at p1 p2
    obtain ⟨c2, h1, h2, _, h4⟩ := hh
    rw [p1] at h1 h4
    obtain ⟨B2, _, h5⟩ := h4 rfl
    rw [p2] at h5
    obtain ⟨l2, h6⟩ := h5.rdi hi
    obtain ⟨Z, z1, z2, z3⟩ := stT_run c2.cells (BA.new V 26 Sc.zero.cells) rfl (by kernel_rfl) (Sc.one _)
    have bV : Below V.heap.size V Z := ((Below.refl _ _).alloc (Nat.le_refl _) _).trans (z3.bel (by simp) (Nat.le_refl _))
    have bYZ : Below Y.heap.size Y Z := h2.trans (bV.mono h2.size)
    exact ⟨c2, l2, Z, h1, z1, hid_of ⟨⟨hD.below bYZ, z2, h6.below bV⟩, s1.below bYZ⟩⟩
  have hL0b : bl (fun i => L0.getD i 0) E = L0 := by rw [← hEL]; exact bl_lies (lies_self L0)
  obtain ⟨LL, hLL⟩ : ∃ LL, LL = L0 ++ bl fm m := ⟨_, rfl⟩
  have hLe : LL.length = E + m := by rw [hLL, List.length_append, bl_len, hEL]
  have MK : Hid (∀ Z g k ga c2 l2, BB w Z ga c c2 o l l2 ∧ Src Z (some ⟨g, 0, none⟩) E k (fun i => L0.getD i 0) → ∃ Y1 Y2 v2 Y3 g3 k3, (mkN 30 (.int .i64 0) (.int .i64 (E : Int))).run Tryd.prog Z = .ok (.slice (some ⟨Z.heap.size, 0, none⟩) 0 E) Y1 ∧ (appN #[30, 30] 30 #[.slice (some ⟨Z.heap.size, 0, none⟩) 0 E, .slice (some ⟨g, 0, none⟩) E k]).run Tryd.prog Y1 = .ok v2 Y2 ∧ (appN #[30, 30] 30 #[v2, .slice ma m mc]).run Tryd.prog Y2 = .ok (.slice (some ⟨g3, 0, none⟩) ((E + m : Nat)) k3) Y3 ∧ Hid (Below Z.heap.size Z Y3 ∧ Ow Y3 Z.heap.size (.slice (some ⟨g3, 0, none⟩) (E + m) k3) LL)) := hid_of fun Z g k ga c2 l2 hZ => by
    obtain ⟨Y1, r1, o1, g1⟩ := make_row Z Z.heap.size E (Nat.le_refl _) (by omega)
    have b1 : Below Z.heap.size Z Y1 := gb_none g1
    obtain ⟨v2, Y2, r2, o2, g2⟩ := app_bytes (X := Y1) (some ⟨g, 0, none⟩) E k _ o1 (hZ.2.below b1).rd (fun e => by cases e) b1.size (by simp; omega) (.inr (by omega))
    have b2 : Below Z.heap.size Z Y2 := gb_low b1 g2 (fun q e => own_lo o1 q e)
    rw [List.nil_append, hL0b] at o2
    obtain ⟨v3, Y3, r3, o3, g4⟩ := app_bytes (X := Y2) ma m mc fm o2 (hm.below (hZ.1.di.be.trans (b2.mono hZ.1.di.be.size))).rd hm.nil b2.size (by omega) (.inl (by omega))
    have b3 : Below Z.heap.size Z Y3 := gb_low b2 g4 (fun q e => own_lo o2 q e)
    rw [← hLL] at o3
    obtain ⟨g3, k3, hv, _, q2⟩ := ow_at o3 (fun e => by rw [e] at hLe; simp at hLe; omega)
    rw [hLe] at hv
    rw [hv] at r3 o3
    exact ⟨Y1, Y2, v2, Y3, g3, k3, r1, r2, r3, b3, o3⟩
  have hmb : AllB (bl fm m) := fun x hx => by
    obtain ⟨j, hj, rfl⟩ := List.mem_map.1 hx
    exact hm.oct j (List.mem_range.1 hj)
  have hLb : AllB LL := by rw [hLL, hL0]; exact hbyt.app hmb
  obtain ⟨er, her⟩ : ∃ er, (decS (fun i => LL.getD i 0) LL.length).2 = er := ⟨_, rfl⟩
  have hboth : (er == 0) = true ∧ ((m : Int) == 0) = true ∨ (er == 0) = false ∧ ((m : Int) == 0) = false := by
    by_cases hm0 : m = 0
    · left
      refine ⟨?_, by simp [hm0]⟩
      have e1 : LL = L0 := by rw [hLL, hm0]; simp [bl]
      rw [← her, e1, hEL, hE, (dec_of hn hlies).1]
      rfl
    · right
      refine ⟨?_, by simp; omega⟩
      have : er ≠ 0 := by
        rw [← her, hLe]
        refine dec_more hn (f := fun i => LL.getD i 0) ?_ (by omega)
        have h1 := lies_self LL
        rw [hLL, hL0] at h1 ⊢
        exact h1.left
      simpa using this
  have DE : Hid (∀ Z Y3 g3 k3 ga c2 l2, BB w Z ga c c2 o l l2 → Below Z.heap.size Z Y3 ∧ Ow Y3 Z.heap.size (.slice (some ⟨g3, 0, none⟩) (E + m) k3) LL → Calls Tryd.prog 17 #[.slice (some ⟨g3, 0, none⟩) ((E + m : Nat)) k3] Y3 fun e U => ∃ c6 p6 Z6, e = .returned (.tuple #[.agg (Sc.cells c6), .int .i64 p6, .int .i64 er]) ∧ (stT 26 ⟨U.heap.size, 0, none⟩ (.agg c6.cells)).run Tryd.prog (U.alloc (.cells Sc.zero.cells 26)) = .ok () Z6 ∧ Hid (Below Z.heap.size Z Z6)) := hid_of fun Z Y3 g3 k3 ga c2 l2 hB hV => by
    refine (decode_own (hB.di.vs.below hV.1 hB.di.vs.big) hV.2 hLb (by omega)).mono fun e U hh => ?_
    obtain ⟨c6, h1, h2, _, _⟩ := hh
    rw [her] at h1
    obtain ⟨Z6, z1, z2, z3⟩ := stT_run c6.cells (BA.new U 26 Sc.zero.cells) rfl (by kernel_rfl) (Sc.one _)
    have bU : Below U.heap.size U Z6 := ((Below.refl _ _).alloc (Nat.le_refl _) _).trans (z3.bel (by simp) (Nat.le_refl _))
    have b1 : Below Z.heap.size Z U := hV.1.trans (h2.mono hV.1.size)
    exact ⟨c6, _, Z6, h1, z1, b1.trans (bU.mono b1.size)⟩
  have SE : Hid (∀ X ga c2 l2, BB w X ga c c2 o l l2 → Calls Tryd.prog 15 #[.agg c.cells, .agg c2.cells] X fun e Y => e = .returned (.bool true) ∧ Below w.heap.size w Y) := hid_of fun X ga c2 l2 hX => (same_eq X c c2 o l l2 hX.di.rd hX.rp).mono fun e Y hh => ⟨hh.1, hX.di.be.trans (hh.2.mono hX.di.be.size)⟩
  have d1 : decide ((0 : Int) ≤ cut) = false := decide_eq_false (by omega)
  have d2 : ¬ (0 : Int) ≤ cut := by omega
  simp only [show Sc.zero.cells = #[.string ⟨#[]⟩, .slice none 0 0, .slice none 0 0, .slice none 0 0] from rfl] at DC DE
  clear h hv hn hm hi hbl hbyt hL0 hEL hlies hL0b hLL hmb hLb hLe her hE hcut
  rcases hboth with ⟨n1, n2⟩ | ⟨n1, n2⟩
  · go_enter Tryd.func6, Tryd.ntmps6
    go_wp2_with (first
      | (go_at_call 8; refine (SH.out _ D0.out).mono ?_; rintro e w1 ⟨rfl, d1⟩; have D1 := hid_of d1; have l1 := d1.ld; clear d1)
      | (go_at_call 10; refine (RG.out _ D1.out).mono ?_; rintro e w2 ⟨rfl, d2⟩; have D2 := hid_of d2; have l2 := d2.ld; clear d2)
      | (go_at_call 11; refine (EN.out _ D2.out).mono ?_; rintro e w3 ⟨g, k, rfl, hk, H3⟩)
      | (go_at_call 17; have hx := HY; clear hx; refine (DE.out Z Y3 g3 k3 _ c2 l2 HZ.out.1 HY.out).mono ?_; rintro e w6 ⟨c6, p6, Z6, rfl, z6, H6⟩; have B6 := hid_of (And.intro (HZ.out.1.below H6.out) (HZ.out.2.below H6.out)); have lo := B6.out.1.di.ld; have lp := B6.out.1.ld)
      | (go_at_call 17; refine (DC.out _ g k H3.out).mono ?_; rintro e w4 ⟨c2, l2, Z, rfl, z1, HZ⟩; obtain ⟨Y1, Y2, v2, Y3, g3, k3, r1, r2, r3, HY⟩ := MK.out Z g k _ c2 l2 HZ.out)
      | (go_at_call 15; refine (SE.out _ _ c2 l2 B6.out.1).mono ?_; rintro e w7 ⟨rfl, hb7⟩))
    go_ret
    exact ⟨ret_bool (by simp), hb7⟩
  · go_enter Tryd.func6, Tryd.ntmps6
    go_wp2_with (first
      | (go_at_call 8; refine (SH.out _ D0.out).mono ?_; rintro e w1 ⟨rfl, d1⟩; have D1 := hid_of d1; have l1 := d1.ld; clear d1)
      | (go_at_call 10; refine (RG.out _ D1.out).mono ?_; rintro e w2 ⟨rfl, d2⟩; have D2 := hid_of d2; have l2 := d2.ld; clear d2)
      | (go_at_call 11; refine (EN.out _ D2.out).mono ?_; rintro e w3 ⟨g, k, rfl, hk, H3⟩)
      | (go_at_call 17; have hx := HY; clear hx; refine (DE.out Z Y3 g3 k3 _ c2 l2 HZ.out.1 HY.out).mono ?_; rintro e w6 ⟨c6, p6, Z6, rfl, z6, H6⟩; have B6 := hid_of (And.intro (HZ.out.1.below H6.out) (HZ.out.2.below H6.out)); have lo := B6.out.1.di.ld; have lp := B6.out.1.ld)
      | (go_at_call 17; refine (DC.out _ g k H3.out).mono ?_; rintro e w4 ⟨c2, l2, Z, rfl, z1, HZ⟩; obtain ⟨Y1, Y2, v2, Y3, g3, k3, r1, r2, r3, HY⟩ := MK.out Z g k _ c2 l2 HZ.out)
      | (go_at_call 15; refine (SE.out _ _ c2 l2 B6.out.1).mono ?_; rintro e w7 ⟨rfl, hb7⟩))
    go_ret
    exact ⟨ret_bool (by simp), hb7⟩
set_option maxHeartbeats 16000000 in
set_option maxRecDepth 20000 in
theorem back_far (w : World) (hv : Vs w) (c : Sc) (o : Sy) (l : List (Pc × Sl)) (h : SyR w c o l) (hn : rightP o = true) (cut : Int) (ma : Option Addr) (m mc : Nat) (fm : Nat → Int) (hm : Src w ma m mc fm) (h0 : 0 ≤ cut) (hcut : 4 + (symP o).length ≤ cut) : Calls Tryd.prog 6 #[.agg c.cells, .int .i64 cut, .slice ma m mc] w fun e w' => e = .returned (.bool true) ∧ Below w.heap.size w w' := by
  have hi := in_right hn
  have hbl := symP_le hn
  have hbyt : AllB (markL ++ symP o) := mark_by.app (symP_by hn)
  obtain ⟨L0, hL0⟩ : ∃ L0, L0 = markL ++ symP o := ⟨_, rfl⟩
  obtain ⟨E, hE⟩ : ∃ E, E = 4 + (symP o).length := ⟨_, rfl⟩
  have hEL : L0.length = E := by rw [hL0, List.length_append, show markL.length = 4 from rfl, hE]
  have hE0 : 0 < E := by omega
  have hEm : E ≤ 100004 := by omega
  have hmm : m ≤ 140737488351232 := hm.fit
  have D0 := hid_of (DB.start h hv)
  have SH : Hid (∀ X, DB w X c o l → Calls Tryd.prog 8 #[] X fun e Y => e = .returned (.bool true) ∧ DB w Y c o l) := hid_of fun X hX => (shown_any X hX.vs).mono fun e Y hh => ⟨hh.1, hX.below hh.2⟩
  have RG : Hid (∀ X, DB w X c o l → Calls Tryd.prog 10 #[.agg c.cells] X fun e Y => e = .returned (.bool true) ∧ DB w Y c o l) := hid_of fun X hX => (right_any X hX.vs c o l hX.rd).mono fun e Y hh => ⟨by rw [hh.1, rightS_P hX.rd.pl, hn], hX.below hh.2⟩
  have EN : Hid (∀ X, DB w X c o l → Calls Tryd.prog 11 #[.agg c.cells] X fun e Y => ∃ g k, e = .returned (.tuple #[.slice (some ⟨g, 0, none⟩) E k, .int .i64 0]) ∧ E ≤ k ∧ Hid ((∃ B, Ow Y B (.slice (some ⟨g, 0, none⟩) E k) L0) ∧ DB w Y c o l)) := hid_of fun X hX => (encode_yes X hX.vs c o l hX.rd hn).mono fun e Y hh => by
    obtain ⟨a, n, k, h1, ⟨B, _, h2⟩, h3⟩ := hh
    rw [← hL0] at h2
    obtain ⟨g, k2, hv, _, _⟩ := ow_at h2 (fun e => by rw [e] at hEL; simp at hEL; omega)
    rw [hEL] at hv
    rw [hv] at h1 h2
    injection hv with _ _ hk
    obtain ⟨_, _, h9⟩ := ow_src h2 (by rw [hL0]; exact hbyt) (by omega)
    exact ⟨g, k2, h1, h9, ⟨B, h2⟩, hX.below h3⟩
  have hlies : Lies (fun i => L0.getD i 0) 0 (markL ++ symP o) := by rw [hL0]; exact lies_self _
  have DC : Hid (∀ Y g k, (∃ B, Ow Y B (.slice (some ⟨g, 0, none⟩) E k) L0) ∧ DB w Y c o l → Calls Tryd.prog 17 #[.slice (some ⟨g, 0, none⟩) E k] Y fun e V => ∃ c2 l2 Z, e = .returned (.tuple #[.agg (Sc.cells c2), .int .i64 0, .int .i64 0]) ∧ (stT 26 ⟨V.heap.size, 0, none⟩ (.agg c2.cells)).run Tryd.prog (V.alloc (.cells Sc.zero.cells 26)) = .ok () Z ∧ Hid (BB w Z V.heap.size c c2 o l l2 ∧ Src Z (some ⟨g, 0, none⟩) E k (fun i => L0.getD i 0))) := hid_of fun Y g k hY => by
    obtain ⟨⟨B, ho⟩, hD⟩ := hY
    have hb0 : AllB L0 := by rw [hL0]; exact hbyt
    obtain ⟨s1, s2, s3⟩ := ow_src ho hb0 (by omega)
    refine (decode_own hD.vs ho hb0 (by omega)).mono fun e V hh => ?_
    obtain ⟨p1, p2⟩ := dec_of hn hlies
    rw [← hE, ← hEL] at p1 p2
    obtain ⟨c2, h1, h2, _, h4⟩ := hh
    rw [p1] at h1 h4
    obtain ⟨B2, _, h5⟩ := h4 rfl
    rw [p2] at h5
    obtain ⟨l2, h6⟩ := h5.rdi hi
    obtain ⟨Z, z1, z2, z3⟩ := stT_run c2.cells (BA.new V 26 Sc.zero.cells) rfl (by kernel_rfl) (Sc.one _)
    have bV : Below V.heap.size V Z := ((Below.refl _ _).alloc (Nat.le_refl _) _).trans (z3.bel (by simp) (Nat.le_refl _))
    have bYZ : Below Y.heap.size Y Z := h2.trans (bV.mono h2.size)
    exact ⟨c2, l2, Z, h1, z1, hid_of ⟨⟨hD.below bYZ, z2, h6.below bV⟩, s1.below bYZ⟩⟩
  have hL0b : bl (fun i => L0.getD i 0) E = L0 := by rw [← hEL]; exact bl_lies (lies_self L0)
  obtain ⟨LL, hLL⟩ : ∃ LL, LL = L0 ++ bl fm m := ⟨_, rfl⟩
  have hLe : LL.length = E + m := by rw [hLL, List.length_append, bl_len, hEL]
  have MK : Hid (∀ Z g k ga c2 l2, BB w Z ga c c2 o l l2 ∧ Src Z (some ⟨g, 0, none⟩) E k (fun i => L0.getD i 0) → ∃ Y1 Y2 v2 Y3 g3 k3, (mkN 30 (.int .i64 0) (.int .i64 (E : Int))).run Tryd.prog Z = .ok (.slice (some ⟨Z.heap.size, 0, none⟩) 0 E) Y1 ∧ (appN #[30, 30] 30 #[.slice (some ⟨Z.heap.size, 0, none⟩) 0 E, .slice (some ⟨g, 0, none⟩) E k]).run Tryd.prog Y1 = .ok v2 Y2 ∧ (appN #[30, 30] 30 #[v2, .slice ma m mc]).run Tryd.prog Y2 = .ok (.slice (some ⟨g3, 0, none⟩) ((E + m : Nat)) k3) Y3 ∧ Hid (Below Z.heap.size Z Y3 ∧ Ow Y3 Z.heap.size (.slice (some ⟨g3, 0, none⟩) (E + m) k3) LL)) := hid_of fun Z g k ga c2 l2 hZ => by
    obtain ⟨Y1, r1, o1, g1⟩ := make_row Z Z.heap.size E (Nat.le_refl _) (by omega)
    have b1 : Below Z.heap.size Z Y1 := gb_none g1
    obtain ⟨v2, Y2, r2, o2, g2⟩ := app_bytes (X := Y1) (some ⟨g, 0, none⟩) E k _ o1 (hZ.2.below b1).rd (fun e => by cases e) b1.size (by simp; omega) (.inr (by omega))
    have b2 : Below Z.heap.size Z Y2 := gb_low b1 g2 (fun q e => own_lo o1 q e)
    rw [List.nil_append, hL0b] at o2
    obtain ⟨v3, Y3, r3, o3, g4⟩ := app_bytes (X := Y2) ma m mc fm o2 (hm.below (hZ.1.di.be.trans (b2.mono hZ.1.di.be.size))).rd hm.nil b2.size (by omega) (.inl (by omega))
    have b3 : Below Z.heap.size Z Y3 := gb_low b2 g4 (fun q e => own_lo o2 q e)
    rw [← hLL] at o3
    obtain ⟨g3, k3, hv, _, q2⟩ := ow_at o3 (fun e => by rw [e] at hLe; simp at hLe; omega)
    rw [hLe] at hv
    rw [hv] at r3 o3
    exact ⟨Y1, Y2, v2, Y3, g3, k3, r1, r2, r3, b3, o3⟩
  have hmb : AllB (bl fm m) := fun x hx => by
    obtain ⟨j, hj, rfl⟩ := List.mem_map.1 hx
    exact hm.oct j (List.mem_range.1 hj)
  have hLb : AllB LL := by rw [hLL, hL0]; exact hbyt.app hmb
  obtain ⟨er, her⟩ : ∃ er, (decS (fun i => LL.getD i 0) LL.length).2 = er := ⟨_, rfl⟩
  have hboth : (er == 0) = true ∧ ((m : Int) == 0) = true ∨ (er == 0) = false ∧ ((m : Int) == 0) = false := by
    by_cases hm0 : m = 0
    · left
      refine ⟨?_, by simp [hm0]⟩
      have e1 : LL = L0 := by rw [hLL, hm0]; simp [bl]
      rw [← her, e1, hEL, hE, (dec_of hn hlies).1]
      rfl
    · right
      refine ⟨?_, by simp; omega⟩
      have : er ≠ 0 := by
        rw [← her, hLe]
        refine dec_more hn (f := fun i => LL.getD i 0) ?_ (by omega)
        have h1 := lies_self LL
        rw [hLL, hL0] at h1 ⊢
        exact h1.left
      simpa using this
  have DE : Hid (∀ Z Y3 g3 k3 ga c2 l2, BB w Z ga c c2 o l l2 → Below Z.heap.size Z Y3 ∧ Ow Y3 Z.heap.size (.slice (some ⟨g3, 0, none⟩) (E + m) k3) LL → Calls Tryd.prog 17 #[.slice (some ⟨g3, 0, none⟩) ((E + m : Nat)) k3] Y3 fun e U => ∃ c6 p6 Z6, e = .returned (.tuple #[.agg (Sc.cells c6), .int .i64 p6, .int .i64 er]) ∧ (stT 26 ⟨U.heap.size, 0, none⟩ (.agg c6.cells)).run Tryd.prog (U.alloc (.cells Sc.zero.cells 26)) = .ok () Z6 ∧ Hid (Below Z.heap.size Z Z6)) := hid_of fun Z Y3 g3 k3 ga c2 l2 hB hV => by
    refine (decode_own (hB.di.vs.below hV.1 hB.di.vs.big) hV.2 hLb (by omega)).mono fun e U hh => ?_
    obtain ⟨c6, h1, h2, _, _⟩ := hh
    rw [her] at h1
    obtain ⟨Z6, z1, z2, z3⟩ := stT_run c6.cells (BA.new U 26 Sc.zero.cells) rfl (by kernel_rfl) (Sc.one _)
    have bU : Below U.heap.size U Z6 := ((Below.refl _ _).alloc (Nat.le_refl _) _).trans (z3.bel (by simp) (Nat.le_refl _))
    have b1 : Below Z.heap.size Z U := hV.1.trans (h2.mono hV.1.size)
    exact ⟨c6, _, Z6, h1, z1, b1.trans (bU.mono b1.size)⟩
  have SE : Hid (∀ X ga c2 l2, BB w X ga c c2 o l l2 → Calls Tryd.prog 15 #[.agg c.cells, .agg c2.cells] X fun e Y => e = .returned (.bool true) ∧ Below w.heap.size w Y) := hid_of fun X ga c2 l2 hX => (same_eq X c c2 o l l2 hX.di.rd hX.rp).mono fun e Y hh => ⟨hh.1, hX.di.be.trans (hh.2.mono hX.di.be.size)⟩
  have d1 : decide ((0 : Int) ≤ cut) = true := decide_eq_true (by omega)
  have d3 : decide (cut < (E : Int)) = false := decide_eq_false (by omega)
  have d4 : ¬ cut < (E : Int) := by omega
  simp only [show Sc.zero.cells = #[.string ⟨#[]⟩, .slice none 0 0, .slice none 0 0, .slice none 0 0] from rfl] at DC DE
  clear h hv hn hm hi hbl hbyt hL0 hEL hlies hL0b hLL hmb hLb hLe her hE hcut
  rcases hboth with ⟨n1, n2⟩ | ⟨n1, n2⟩
  · go_enter Tryd.func6, Tryd.ntmps6
    go_wp2_with (first
      | (go_at_call 8; refine (SH.out _ D0.out).mono ?_; rintro e w1 ⟨rfl, d1⟩; have D1 := hid_of d1; have l1 := d1.ld; clear d1)
      | (go_at_call 10; refine (RG.out _ D1.out).mono ?_; rintro e w2 ⟨rfl, d2⟩; have D2 := hid_of d2; have l2 := d2.ld; clear d2)
      | (go_at_call 11; refine (EN.out _ D2.out).mono ?_; rintro e w3 ⟨g, k, rfl, hk, H3⟩)
      | (go_at_call 17; have hx := HY; clear hx; refine (DE.out Z Y3 g3 k3 _ c2 l2 HZ.out.1 HY.out).mono ?_; rintro e w6 ⟨c6, p6, Z6, rfl, z6, H6⟩; have B6 := hid_of (And.intro (HZ.out.1.below H6.out) (HZ.out.2.below H6.out)); have lo := B6.out.1.di.ld; have lp := B6.out.1.ld)
      | (go_at_call 17; refine (DC.out _ g k H3.out).mono ?_; rintro e w4 ⟨c2, l2, Z, rfl, z1, HZ⟩; obtain ⟨Y1, Y2, v2, Y3, g3, k3, r1, r2, r3, HY⟩ := MK.out Z g k _ c2 l2 HZ.out)
      | (go_at_call 15; refine (SE.out _ _ c2 l2 B6.out.1).mono ?_; rintro e w7 ⟨rfl, hb7⟩))
    go_ret
    exact ⟨ret_bool (by simp), hb7⟩
  · go_enter Tryd.func6, Tryd.ntmps6
    go_wp2_with (first
      | (go_at_call 8; refine (SH.out _ D0.out).mono ?_; rintro e w1 ⟨rfl, d1⟩; have D1 := hid_of d1; have l1 := d1.ld; clear d1)
      | (go_at_call 10; refine (RG.out _ D1.out).mono ?_; rintro e w2 ⟨rfl, d2⟩; have D2 := hid_of d2; have l2 := d2.ld; clear d2)
      | (go_at_call 11; refine (EN.out _ D2.out).mono ?_; rintro e w3 ⟨g, k, rfl, hk, H3⟩)
      | (go_at_call 17; have hx := HY; clear hx; refine (DE.out Z Y3 g3 k3 _ c2 l2 HZ.out.1 HY.out).mono ?_; rintro e w6 ⟨c6, p6, Z6, rfl, z6, H6⟩; have B6 := hid_of (And.intro (HZ.out.1.below H6.out) (HZ.out.2.below H6.out)); have lo := B6.out.1.di.ld; have lp := B6.out.1.ld)
      | (go_at_call 17; refine (DC.out _ g k H3.out).mono ?_; rintro e w4 ⟨c2, l2, Z, rfl, z1, HZ⟩; obtain ⟨Y1, Y2, v2, Y3, g3, k3, r1, r2, r3, HY⟩ := MK.out Z g k _ c2 l2 HZ.out)
      | (go_at_call 15; refine (SE.out _ _ c2 l2 B6.out.1).mono ?_; rintro e w7 ⟨rfl, hb7⟩))
    go_ret
    exact ⟨ret_bool (by simp), hb7⟩
set_option maxHeartbeats 16000000 in
set_option maxRecDepth 20000 in
theorem back_cut (w : World) (hv : Vs w) (c : Sc) (o : Sy) (l : List (Pc × Sl)) (h : SyR w c o l) (hn : rightP o = true) (cut : Int) (ma : Option Addr) (m mc : Nat) (fm : Nat → Int) (hm : Src w ma m mc fm) (h0 : 0 ≤ cut) (hcut : cut < 4 + (symP o).length) : Calls Tryd.prog 6 #[.agg c.cells, .int .i64 cut, .slice ma m mc] w fun e w' => e = .returned (.bool true) ∧ Below w.heap.size w w' := by
  have hi := in_right hn
  have hbl := symP_le hn
  have hbyt : AllB (markL ++ symP o) := mark_by.app (symP_by hn)
  obtain ⟨L0, hL0⟩ : ∃ L0, L0 = markL ++ symP o := ⟨_, rfl⟩
  obtain ⟨E, hE⟩ : ∃ E, E = 4 + (symP o).length := ⟨_, rfl⟩
  have hEL : L0.length = E := by rw [hL0, List.length_append, show markL.length = 4 from rfl, hE]
  have hE0 : 0 < E := by omega
  have hEm : E ≤ 100004 := by omega
  have hmm : m ≤ 140737488351232 := hm.fit
  have D0 := hid_of (DB.start h hv)
  have SH : Hid (∀ X, DB w X c o l → Calls Tryd.prog 8 #[] X fun e Y => e = .returned (.bool true) ∧ DB w Y c o l) := hid_of fun X hX => (shown_any X hX.vs).mono fun e Y hh => ⟨hh.1, hX.below hh.2⟩
  have RG : Hid (∀ X, DB w X c o l → Calls Tryd.prog 10 #[.agg c.cells] X fun e Y => e = .returned (.bool true) ∧ DB w Y c o l) := hid_of fun X hX => (right_any X hX.vs c o l hX.rd).mono fun e Y hh => ⟨by rw [hh.1, rightS_P hX.rd.pl, hn], hX.below hh.2⟩
  have EN : Hid (∀ X, DB w X c o l → Calls Tryd.prog 11 #[.agg c.cells] X fun e Y => ∃ g k, e = .returned (.tuple #[.slice (some ⟨g, 0, none⟩) E k, .int .i64 0]) ∧ E ≤ k ∧ Hid ((∃ B, Ow Y B (.slice (some ⟨g, 0, none⟩) E k) L0) ∧ DB w Y c o l)) := hid_of fun X hX => (encode_yes X hX.vs c o l hX.rd hn).mono fun e Y hh => by
    obtain ⟨a, n, k, h1, ⟨B, _, h2⟩, h3⟩ := hh
    rw [← hL0] at h2
    obtain ⟨g, k2, hv, _, _⟩ := ow_at h2 (fun e => by rw [e] at hEL; simp at hEL; omega)
    rw [hEL] at hv
    rw [hv] at h1 h2
    injection hv with _ _ hk
    obtain ⟨_, _, h9⟩ := ow_src h2 (by rw [hL0]; exact hbyt) (by omega)
    exact ⟨g, k2, h1, h9, ⟨B, h2⟩, hX.below h3⟩
  have hlies : Lies (fun i => L0.getD i 0) 0 (markL ++ symP o) := by rw [hL0]; exact lies_self _
  have DC : Hid (∀ Y g k, (∃ B, Ow Y B (.slice (some ⟨g, 0, none⟩) E k) L0) ∧ DB w Y c o l → Calls Tryd.prog 17 #[.slice (some ⟨g, 0, none⟩) E k] Y fun e V => ∃ c2 l2 Z, e = .returned (.tuple #[.agg (Sc.cells c2), .int .i64 0, .int .i64 0]) ∧ (stT 26 ⟨V.heap.size, 0, none⟩ (.agg c2.cells)).run Tryd.prog (V.alloc (.cells Sc.zero.cells 26)) = .ok () Z ∧ Hid (BB w Z V.heap.size c c2 o l l2 ∧ Src Z (some ⟨g, 0, none⟩) E k (fun i => L0.getD i 0))) := hid_of fun Y g k hY => by
    obtain ⟨⟨B, ho⟩, hD⟩ := hY
    have hb0 : AllB L0 := by rw [hL0]; exact hbyt
    obtain ⟨s1, s2, s3⟩ := ow_src ho hb0 (by omega)
    refine (decode_own hD.vs ho hb0 (by omega)).mono fun e V hh => ?_
    obtain ⟨p1, p2⟩ := dec_of hn hlies
    rw [← hE, ← hEL] at p1 p2
    obtain ⟨c2, h1, h2, _, h4⟩ := hh
    rw [p1] at h1 h4
    obtain ⟨B2, _, h5⟩ := h4 rfl
    rw [p2] at h5
    obtain ⟨l2, h6⟩ := h5.rdi hi
    obtain ⟨Z, z1, z2, z3⟩ := stT_run c2.cells (BA.new V 26 Sc.zero.cells) rfl (by kernel_rfl) (Sc.one _)
    have bV : Below V.heap.size V Z := ((Below.refl _ _).alloc (Nat.le_refl _) _).trans (z3.bel (by simp) (Nat.le_refl _))
    have bYZ : Below Y.heap.size Y Z := h2.trans (bV.mono h2.size)
    exact ⟨c2, l2, Z, h1, z1, hid_of ⟨⟨hD.below bYZ, z2, h6.below bV⟩, s1.below bYZ⟩⟩
  have hL0b : bl (fun i => L0.getD i 0) E = L0 := by rw [← hEL]; exact bl_lies (lies_self L0)
  obtain ⟨LL, hLL⟩ : ∃ LL, LL = L0 ++ bl fm m := ⟨_, rfl⟩
  have hLe : LL.length = E + m := by rw [hLL, List.length_append, bl_len, hEL]
  have MK : Hid (∀ Z g k ga c2 l2, BB w Z ga c c2 o l l2 ∧ Src Z (some ⟨g, 0, none⟩) E k (fun i => L0.getD i 0) → ∃ Y1 Y2 v2 Y3 g3 k3, (mkN 30 (.int .i64 0) (.int .i64 (E : Int))).run Tryd.prog Z = .ok (.slice (some ⟨Z.heap.size, 0, none⟩) 0 E) Y1 ∧ (appN #[30, 30] 30 #[.slice (some ⟨Z.heap.size, 0, none⟩) 0 E, .slice (some ⟨g, 0, none⟩) E k]).run Tryd.prog Y1 = .ok v2 Y2 ∧ (appN #[30, 30] 30 #[v2, .slice ma m mc]).run Tryd.prog Y2 = .ok (.slice (some ⟨g3, 0, none⟩) ((E + m : Nat)) k3) Y3 ∧ Hid (Below Z.heap.size Z Y3 ∧ Ow Y3 Z.heap.size (.slice (some ⟨g3, 0, none⟩) (E + m) k3) LL)) := hid_of fun Z g k ga c2 l2 hZ => by
    obtain ⟨Y1, r1, o1, g1⟩ := make_row Z Z.heap.size E (Nat.le_refl _) (by omega)
    have b1 : Below Z.heap.size Z Y1 := gb_none g1
    obtain ⟨v2, Y2, r2, o2, g2⟩ := app_bytes (X := Y1) (some ⟨g, 0, none⟩) E k _ o1 (hZ.2.below b1).rd (fun e => by cases e) b1.size (by simp; omega) (.inr (by omega))
    have b2 : Below Z.heap.size Z Y2 := gb_low b1 g2 (fun q e => own_lo o1 q e)
    rw [List.nil_append, hL0b] at o2
    obtain ⟨v3, Y3, r3, o3, g4⟩ := app_bytes (X := Y2) ma m mc fm o2 (hm.below (hZ.1.di.be.trans (b2.mono hZ.1.di.be.size))).rd hm.nil b2.size (by omega) (.inl (by omega))
    have b3 : Below Z.heap.size Z Y3 := gb_low b2 g4 (fun q e => own_lo o2 q e)
    rw [← hLL] at o3
    obtain ⟨g3, k3, hv, _, q2⟩ := ow_at o3 (fun e => by rw [e] at hLe; simp at hLe; omega)
    rw [hLe] at hv
    rw [hv] at r3 o3
    exact ⟨Y1, Y2, v2, Y3, g3, k3, r1, r2, r3, b3, o3⟩
  have hmb : AllB (bl fm m) := fun x hx => by
    obtain ⟨j, hj, rfl⟩ := List.mem_map.1 hx
    exact hm.oct j (List.mem_range.1 hj)
  have hLb : AllB LL := by rw [hLL, hL0]; exact hbyt.app hmb
  obtain ⟨er, her⟩ : ∃ er, (decS (fun i => LL.getD i 0) LL.length).2 = er := ⟨_, rfl⟩
  have hboth : (er == 0) = true ∧ ((m : Int) == 0) = true ∨ (er == 0) = false ∧ ((m : Int) == 0) = false := by
    by_cases hm0 : m = 0
    · left
      refine ⟨?_, by simp [hm0]⟩
      have e1 : LL = L0 := by rw [hLL, hm0]; simp [bl]
      rw [← her, e1, hEL, hE, (dec_of hn hlies).1]
      rfl
    · right
      refine ⟨?_, by simp; omega⟩
      have : er ≠ 0 := by
        rw [← her, hLe]
        refine dec_more hn (f := fun i => LL.getD i 0) ?_ (by omega)
        have h1 := lies_self LL
        rw [hLL, hL0] at h1 ⊢
        exact h1.left
      simpa using this
  have DE : Hid (∀ Z Y3 g3 k3 ga c2 l2, BB w Z ga c c2 o l l2 → Below Z.heap.size Z Y3 ∧ Ow Y3 Z.heap.size (.slice (some ⟨g3, 0, none⟩) (E + m) k3) LL → Calls Tryd.prog 17 #[.slice (some ⟨g3, 0, none⟩) ((E + m : Nat)) k3] Y3 fun e U => ∃ c6 p6 Z6, e = .returned (.tuple #[.agg (Sc.cells c6), .int .i64 p6, .int .i64 er]) ∧ (stT 26 ⟨U.heap.size, 0, none⟩ (.agg c6.cells)).run Tryd.prog (U.alloc (.cells Sc.zero.cells 26)) = .ok () Z6 ∧ Hid (Below Z.heap.size Z Z6)) := hid_of fun Z Y3 g3 k3 ga c2 l2 hB hV => by
    refine (decode_own (hB.di.vs.below hV.1 hB.di.vs.big) hV.2 hLb (by omega)).mono fun e U hh => ?_
    obtain ⟨c6, h1, h2, _, _⟩ := hh
    rw [her] at h1
    obtain ⟨Z6, z1, z2, z3⟩ := stT_run c6.cells (BA.new U 26 Sc.zero.cells) rfl (by kernel_rfl) (Sc.one _)
    have bU : Below U.heap.size U Z6 := ((Below.refl _ _).alloc (Nat.le_refl _) _).trans (z3.bel (by simp) (Nat.le_refl _))
    have b1 : Below Z.heap.size Z U := hV.1.trans (h2.mono hV.1.size)
    exact ⟨c6, _, Z6, h1, z1, b1.trans (bU.mono b1.size)⟩
  have SE : Hid (∀ X ga c2 l2, BB w X ga c c2 o l l2 → Calls Tryd.prog 15 #[.agg c.cells, .agg c2.cells] X fun e Y => e = .returned (.bool true) ∧ Below w.heap.size w Y) := hid_of fun X ga c2 l2 hX => (same_eq X c c2 o l l2 hX.di.rd hX.rp).mono fun e Y hh => ⟨hh.1, hX.di.be.trans (hh.2.mono hX.di.be.size)⟩
  have d1 : decide ((0 : Int) ≤ cut) = true := decide_eq_true (by omega)
  have d3 : decide (cut < (E : Int)) = true := decide_eq_true (by omega)
  have d4 : cut < (E : Int) := by omega
  have d5 : cut ≤ (E : Int) := by omega
  obtain ⟨q, hq⟩ : ∃ q : Nat, cut = (q : Int) := ⟨cut.toNat, by omega⟩
  have hqE : q ≤ E := by omega
  obtain ⟨er7, her7⟩ : ∃ er7, (decS (fun i => L0.getD i 0) q).2 = er7 := ⟨_, rfl⟩
  have n7 : (er7 != 0) = true := by
    have : er7 ≠ 0 := by
      rw [← her7]
      refine dec_less hn ?_ hlies (by omega)
      intro i hi2
      have hm2 : L0.getD i 0 ∈ L0 := by rw [List.getD_eq_getElem?_getD, List.getElem?_eq_getElem (by omega)]; exact List.getElem_mem (by omega)
      have hb0 : AllB L0 := by rw [hL0]; exact hbyt
      exact hb0 _ hm2
    simpa using this
  have DQ : Hid (∀ X g k ga c2 l2, BB w X ga c c2 o l l2 ∧ Src X (some ⟨g, 0, none⟩) E k (fun i => L0.getD i 0) → E ≤ k → Calls Tryd.prog 17 #[.slice (some ⟨g, 0, none⟩) q k] X fun e U => ∃ c7 p7, e = .returned (.tuple #[.agg (Sc.cells c7), .int .i64 p7, .int .i64 er7]) ∧ (ldT 26 ⟨w.heap.size, 0, none⟩).run Tryd.prog U = .ok (.agg c.cells) U ∧ (ldT 26 ⟨ga, 0, none⟩).run Tryd.prog U = .ok (.agg c2.cells) U ∧ Hid (BB w U ga c c2 o l l2)) := hid_of fun X g k ga c2 l2 hX hk => by
    refine (decode_any X hX.1.di.vs (some ⟨g, 0, none⟩) q k _ ⟨hX.2.less q (by omega), (fun e => by cases e), by omega⟩ (by omega)).mono fun e U hh => ?_
    obtain ⟨c7, h1, h2, _, _⟩ := hh
    rw [her7] at h1
    have hb := hX.1.below h2
    exact ⟨c7, _, h1, hb.di.ld, hb.ld, hb⟩
  have d6 : (0 : Int) ≤ (q : Int) := by omega
  have d7 : (q : Int) ≤ (E : Int) := by omega
  subst hq
  simp only [show Sc.zero.cells = #[.string ⟨#[]⟩, .slice none 0 0, .slice none 0 0, .slice none 0 0] from rfl] at DC DE
  clear h hv hn hm hi hbl hbyt hL0 hEL hlies hL0b hLL hmb hLb hLe her hE hcut her7
  rcases hboth with ⟨n1, n2⟩ | ⟨n1, n2⟩
  · go_enter Tryd.func6, Tryd.ntmps6
    go_wp2_with (first
      | (go_at_call 8; refine (SH.out _ D0.out).mono ?_; rintro e w1 ⟨rfl, d1⟩; have D1 := hid_of d1; have l1 := d1.ld; clear d1)
      | (go_at_call 10; refine (RG.out _ D1.out).mono ?_; rintro e w2 ⟨rfl, d2⟩; have D2 := hid_of d2; have l2 := d2.ld; clear d2)
      | (go_at_call 11; refine (EN.out _ D2.out).mono ?_; rintro e w3 ⟨g, k, rfl, hk, H3⟩)
      | (go_at_call 17; have hx := B6; clear hx; refine (DQ.out _ g k _ c2 l2 B6.out hk).mono ?_; rintro e w8 ⟨c7, p7, rfl, l8, l9, H8⟩)
      | (go_at_call 17; have hx := HY; clear hx; refine (DE.out Z Y3 g3 k3 _ c2 l2 HZ.out.1 HY.out).mono ?_; rintro e w6 ⟨c6, p6, Z6, rfl, z6, H6⟩; have B6 := hid_of (And.intro (HZ.out.1.below H6.out) (HZ.out.2.below H6.out)); have lo := B6.out.1.di.ld; have lp := B6.out.1.ld)
      | (go_at_call 17; refine (DC.out _ g k H3.out).mono ?_; rintro e w4 ⟨c2, l2, Z, rfl, z1, HZ⟩; obtain ⟨Y1, Y2, v2, Y3, g3, k3, r1, r2, r3, HY⟩ := MK.out Z g k _ c2 l2 HZ.out)
      | (go_at_call 15; refine (SE.out _ _ c2 l2 H8.out).mono ?_; rintro e w7 ⟨rfl, hb7⟩))
    go_ret
    exact ⟨ret_bool (by simp), hb7⟩
  · go_enter Tryd.func6, Tryd.ntmps6
    go_wp2_with (first
      | (go_at_call 8; refine (SH.out _ D0.out).mono ?_; rintro e w1 ⟨rfl, d1⟩; have D1 := hid_of d1; have l1 := d1.ld; clear d1)
      | (go_at_call 10; refine (RG.out _ D1.out).mono ?_; rintro e w2 ⟨rfl, d2⟩; have D2 := hid_of d2; have l2 := d2.ld; clear d2)
      | (go_at_call 11; refine (EN.out _ D2.out).mono ?_; rintro e w3 ⟨g, k, rfl, hk, H3⟩)
      | (go_at_call 17; have hx := B6; clear hx; refine (DQ.out _ g k _ c2 l2 B6.out hk).mono ?_; rintro e w8 ⟨c7, p7, rfl, l8, l9, H8⟩)
      | (go_at_call 17; have hx := HY; clear hx; refine (DE.out Z Y3 g3 k3 _ c2 l2 HZ.out.1 HY.out).mono ?_; rintro e w6 ⟨c6, p6, Z6, rfl, z6, H6⟩; have B6 := hid_of (And.intro (HZ.out.1.below H6.out) (HZ.out.2.below H6.out)); have lo := B6.out.1.di.ld; have lp := B6.out.1.ld)
      | (go_at_call 17; refine (DC.out _ g k H3.out).mono ?_; rintro e w4 ⟨c2, l2, Z, rfl, z1, HZ⟩; obtain ⟨Y1, Y2, v2, Y3, g3, k3, r1, r2, r3, HY⟩ := MK.out Z g k _ c2 l2 HZ.out)
      | (go_at_call 15; refine (SE.out _ _ c2 l2 H8.out).mono ?_; rintro e w7 ⟨rfl, hb7⟩))
    go_ret
    exact ⟨ret_bool (by simp), hb7⟩
theorem back_any (w : World) (hv : Vs w) (c : Sc) (o : Sy) (l : List (Pc × Sl)) (h : SyR w c o l) (cut : Int) (ma : Option Addr) (m mc : Nat) (fm : Nat → Int) (hm : Src w ma m mc fm) : Calls Tryd.prog 6 #[.agg c.cells, .int .i64 cut, .slice ma m mc] w fun e w' => e = .returned (.bool true) ∧ Below w.heap.size w w' := by
  cases hr : rightP o
  · exact back_no w hv c o l h hr cut ma m mc
  · by_cases h0 : 0 ≤ cut
    · by_cases h1 : cut < 4 + (symP o).length
      · exact back_cut w hv c o l h hr cut ma m mc fm hm h0 h1
      · exact back_far w hv c o l h hr cut ma m mc fm hm h0 (by omega)
    · exact back_neg w hv c o l h hr cut ma m mc fm hm (by omega)
end Go.Proofs.YtfmkafbdjfakkaaDoor

namespace Go.Proofs.YtfmkafbdjfakkaaDoor
set_option linter.unusedVariables false
set_option linter.unusedSimpArgs false
open Go.ChangeShapes Go.WideShapes Go.ChangeAt Go.RowKit
attribute [local go_sem ↓] ldS_seal stS_seal

set_option maxHeartbeats 16000000 in
set_option maxRecDepth 20000 in
theorem sbytes_any (w : World) (hv : Vs w) (c : Sc) (o : Sy) (l : List (Pc × Sl)) (h : SyM w c o l) : Calls Tryd.prog 3 #[.agg c.cells] w fun e w' => e = .returned (.bool true) ∧ Below w.heap.size w w' := by
  have D0 := hid_of (DB.start h.rd hv)
  have SH : Hid (∀ X, DB w X c o l → Calls Tryd.prog 8 #[] X fun e Y => e = .returned (.bool true) ∧ DB w Y c o l) := hid_of fun X hX => (shown_any X hX.vs).mono fun e Y hh => ⟨hh.1, hX.below hh.2⟩
  have CP : Hid (∀ X : World, DB w X c o l → Calls Tryd.prog 9 #[.agg c.cells] X fun e V => ∃ (c2 : Sc) (l2 : List (Pc × Sl)) (Z : World), e = .returned (.agg (Sc.cells c2)) ∧ (stT 26 ⟨V.heap.size, 0, none⟩ (.agg c2.cells)).run Tryd.prog (V.alloc (.cells zeroS 26)) = .ok () Z ∧ Hid (BB w Z V.heap.size c c2 o l l2)) := hid_of fun X hX => (copied_any X c o l ⟨hX.rd, h.cs, h.vs, h.ps, h.pp⟩).mono fun e V hh => by
    obtain ⟨c2, l2, h1, h2, h3⟩ := hh
    obtain ⟨Z, z1, z2, z3⟩ := stT_run (w := V.alloc (.cells zeroS 26)) c2.cells (BA.new V _ zeroS) rfl (by kernel_rfl) (by simp [Sc.cells, Value.oneCell'])
    have bV : Below V.heap.size V Z := ((Below.refl _ _).alloc (Nat.le_refl _) _).trans (z3.bel (by simp) (Nat.le_refl _))
    have bXZ : Below X.heap.size X Z := h3.trans (bV.mono h3.size)
    exact ⟨c2, l2, Z, h1, z1, hX.below bXZ, z2, h2.below bV⟩
  have SE : Hid (∀ X ga c2 l2, BB w X ga c c2 o l l2 → Calls Tryd.prog 15 #[.agg c2.cells, .agg c.cells] X fun e Y => e = .returned (.bool true) ∧ Below X.heap.size X Y) := hid_of fun X ga c2 l2 hX => same_eq X c2 c o l2 l hX.rp hX.di.rd
  simp only [zeroS] at CP
  cases hn : rightP o
  · have RG : Hid (∀ X ga c2 l2, BB w X ga c c2 o l l2 → Calls Tryd.prog 10 #[.agg c2.cells] X fun e Y => e = .returned (.bool false) ∧ BB w Y ga c c2 o l l2) := hid_of fun X ga c2 l2 hX => (right_any X hX.di.vs c2 o l2 hX.rp).mono fun e Y hh => ⟨by rw [hh.1, rightS_P hX.rp.pl, hn], hX.below hh.2⟩
    have EN : Hid (∀ X ga c2 l2, BB w X ga c c2 o l l2 → Calls Tryd.prog 11 #[.agg c2.cells] X fun e Y => e = .returned (.tuple #[.slice none 0 0, .int .i64 130]) ∧ BB w Y ga c c2 o l l2) := hid_of fun X ga c2 l2 hX => (encode_no X hX.di.vs c2 o l2 hX.rp hn).mono fun e Y hh => ⟨hh.1, hX.below hh.2⟩
    have RE : Hid (∀ X ga c2 l2, BB w X ga c c2 o l l2 → Calls Tryd.prog 12 #[.agg c.cells] X fun e Y => e = .returned (.tuple #[.slice none 0 0, .int .i64 130]) ∧ BB w Y ga c c2 o l l2) := hid_of fun X ga c2 l2 hX => (rencode_no X c o l hX.di.rd hn).mono fun e Y hh => ⟨hh.1, hX.below hh.2⟩
    have KE : Hid (∀ X ga c2 l2, BB w X ga c c2 o l l2 → Calls Tryd.prog 13 #[.agg c2.cells] X fun e Y => e = .returned (.tuple #[.int .u32 0, .int .i64 130]) ∧ BB w Y ga c c2 o l l2) := hid_of fun X ga c2 l2 hX => (key_any X hX.di.vs c2 o l2 hX.rp).mono fun e Y hh => ⟨by rw [hh.1, hn]; rfl, hX.below hh.2⟩
    have KR : Hid (∀ X ga c2 l2, BB w X ga c c2 o l l2 → Calls Tryd.prog 14 #[.agg c.cells] X fun e Y => e = .returned (.tuple #[.int .u32 0, .int .i64 130]) ∧ BB w Y ga c c2 o l l2) := hid_of fun X ga c2 l2 hX => (rkey_any X c o l hX.di.rd).mono fun e Y hh => ⟨by rw [hh.1, hn]; rfl, hX.below hh.2⟩
    have RR : Hid (∀ X ga c2 l2, BB w X ga c c2 o l l2 → Calls Tryd.prog 16 #[.agg c.cells] X fun e Y => e = .returned (.bool false) ∧ Below w.heap.size w Y) := hid_of fun X ga c2 l2 hX => (rright_any X c o l hX.di.rd).mono fun e Y hh => ⟨by rw [hh.1, hn], hX.di.be.trans (hh.2.mono hX.di.be.size)⟩
    have cv : ∀ X : World, (convert 30 9 (.slice none 0 0)).run Tryd.prog X = .ok (.string ⟨#[]⟩) X := fun X => by
      rw [run_convert_bytes_string X _ 9 5 none 0 0 Tryd.underlying30 Tryd.underlying5 Tryd.underlying9]
      rfl
    clear h hn hv
    go_enter Tryd.func3, Tryd.ntmps3
    go_wp2_with (first
      | (go_at_call 8; refine (SH.out _ D0.out).mono ?_; rintro e w1 ⟨rfl, d1⟩; have D1 := hid_of d1; have ld1 := d1.ld; clear d1)
      | (go_at_call 9; refine (CP.out _ D1.out).mono ?_; rintro e w2 ⟨c2, l2, Z, rfl, z1, HY⟩; have ld2 := HY.out.ld)
      | (go_at_call 10; refine (RG.out _ _ c2 l2 HY.out).mono ?_; rintro e w3 ⟨rfl, y3⟩; have Y3 := hid_of y3; have ld3 := y3.ld; clear y3)
      | (go_at_call 11; refine (EN.out _ _ c2 l2 Y3.out).mono ?_; rintro e w4 ⟨rfl, y4⟩; have Y4 := hid_of y4; have ld4 := y4.di.ld; clear y4)
      | (go_at_call 12; refine (RE.out _ _ c2 l2 Y4.out).mono ?_; rintro e w5 ⟨rfl, y5⟩; have Y5 := hid_of y5; have ld5 := y5.ld; clear y5)
      | (go_at_call 13; refine (KE.out _ _ c2 l2 Y5.out).mono ?_; rintro e w6 ⟨rfl, y6⟩; have Y6 := hid_of y6; have ld6 := y6.di.ld; clear y6)
      | (go_at_call 14; refine (KR.out _ _ c2 l2 Y6.out).mono ?_; rintro e w7 ⟨rfl, y7⟩; have Y7 := hid_of y7; have ld7 := y7.di.ld; have ld8 := y7.ld; clear y7)
      | (go_at_call 15; refine (SE.out _ _ c2 l2 Y7.out).mono ?_; rintro e w8 ⟨rfl, h8⟩; have Y8 := hid_of (Y7.out.below h8); have ld9 := Y8.out.di.ld; clear h8)
      | (go_at_call 16; refine (RR.out _ _ c2 l2 Y8.out).mono ?_; rintro e w9 ⟨rfl, h9⟩; have cv9 := cv w9))
    go_ret
    exact ⟨ret_bool (by simp), h9⟩
  · obtain ⟨L, hL⟩ : ∃ L, L = markL ++ symP o := ⟨_, rfl⟩
    have RG : Hid (∀ X ga c2 l2, BB w X ga c c2 o l l2 → Calls Tryd.prog 10 #[.agg c2.cells] X fun e Y => e = .returned (.bool true) ∧ BB w Y ga c c2 o l l2) := hid_of fun X ga c2 l2 hX => (right_any X hX.di.vs c2 o l2 hX.rp).mono fun e Y hh => ⟨by rw [hh.1, rightS_P hX.rp.pl, hn], hX.below hh.2⟩
    have EN : Hid (∀ X ga c2 l2, BB w X ga c c2 o l l2 → Calls Tryd.prog 11 #[.agg c2.cells] X fun e Y => ∃ a n k, e = .returned (.tuple #[.slice a n k, .int .i64 0]) ∧ Hid (BB w Y ga c c2 o l l2 ∧ ∃ B, Ow Y B (.slice a n k) L)) := hid_of fun X ga c2 l2 hX => (encode_yes X hX.di.vs c2 o l2 hX.rp hn).mono fun e Y hh => by
      obtain ⟨a, n, k, h1, ⟨B, _, h2⟩, h3⟩ := hh
      exact ⟨a, n, k, h1, hX.below h3, B, by rw [hL]; exact h2⟩
    have RE : Hid (∀ X ga c2 l2 v, BB w X ga c c2 o l l2 → (∃ B, Ow X B v L) → Calls Tryd.prog 12 #[.agg c.cells] X fun e Y => ∃ a n k, e = .returned (.tuple #[.slice a n k, .int .i64 0]) ∧ Hid (BB w Y ga c c2 o l l2 ∧ (∃ B, Ow Y B v L) ∧ ∃ B, Ow Y B (.slice a n k) L)) := hid_of fun X ga c2 l2 v hX hB => (rencode_yes X c o l hX.di.rd hn).mono fun e Y hh => by
      obtain ⟨a, n, k, h1, ⟨B, _, h2⟩, h3⟩ := hh
      obtain ⟨B0, hB0⟩ := hB
      exact ⟨a, n, k, h1, hX.below h3, ⟨B0, ow_below hB0 h3⟩, B, by rw [hL]; exact h2⟩
    have KE : Hid (∀ X ga c2 l2, BB w X ga c c2 o l l2 → Calls Tryd.prog 13 #[.agg c2.cells] X fun e Y => e = .returned (.tuple #[.int .u32 (keyI o), .int .i64 0]) ∧ Hid (BB w Y ga c c2 o l l2 ∧ Below X.heap.size X Y)) := hid_of fun X ga c2 l2 hX => (key_any X hX.di.vs c2 o l2 hX.rp).mono fun e Y hh => ⟨by rw [hh.1, hn]; rfl, hX.below hh.2, hh.2⟩
    have KR : Hid (∀ X ga c2 l2, BB w X ga c c2 o l l2 → Calls Tryd.prog 14 #[.agg c.cells] X fun e Y => e = .returned (.tuple #[.int .u32 (keyI o), .int .i64 0]) ∧ Hid (BB w Y ga c c2 o l l2 ∧ Below X.heap.size X Y)) := hid_of fun X ga c2 l2 hX => (rkey_any X c o l hX.di.rd).mono fun e Y hh => ⟨by rw [hh.1, hn]; rfl, hX.below hh.2, hh.2⟩
    have RR : Hid (∀ X ga c2 l2 v v2, BB w X ga c c2 o l l2 → (∃ B, Ow X B v L) → (∃ B, Ow X B v2 L) → Calls Tryd.prog 16 #[.agg c.cells] X fun e Y => e = .returned (.bool true) ∧ (convert 30 9 v).run Tryd.prog Y = .ok (.string (strOfNums L)) Y ∧ (convert 30 9 v2).run Tryd.prog Y = .ok (.string (strOfNums L)) Y ∧ Below w.heap.size w Y) := hid_of fun X ga c2 l2 v v2 hX hB hB2 => (rright_any X c o l hX.di.rd).mono fun e Y hh => by
      obtain ⟨B, hB⟩ := hB
      obtain ⟨B2, hB2⟩ := hB2
      exact ⟨by rw [hh.1, hn], conv_ow (ow_below hB hh.2) Y (fun _ _ _ => rfl), conv_ow (ow_below hB2 hh.2) Y (fun _ _ _ => rfl), hX.di.be.trans (hh.2.mono hX.di.be.size)⟩
    generalize strOfNums L = SS at RR
    generalize keyI o = kk at KE KR
    clear h hn hv hL
    go_enter Tryd.func3, Tryd.ntmps3
    go_wp2_with (first
      | (go_at_call 8; refine (SH.out _ D0.out).mono ?_; rintro e w1 ⟨rfl, d1⟩; have D1 := hid_of d1; have ld1 := d1.ld; clear d1)
      | (go_at_call 9; refine (CP.out _ D1.out).mono ?_; rintro e w2 ⟨c2, l2, Z, rfl, z1, HY⟩; have ld2 := HY.out.ld)
      | (go_at_call 10; refine (RG.out _ _ c2 l2 HY.out).mono ?_; rintro e w3 ⟨rfl, y3⟩; have Y3 := hid_of y3; have ld3 := y3.ld; clear y3)
      | (go_at_call 11; refine (EN.out _ _ c2 l2 Y3.out).mono ?_; rintro e w4 ⟨a4, n4, k4, rfl, Y4⟩; have ld4 := Y4.out.1.di.ld)
      | (go_at_call 12; refine (RE.out _ _ c2 l2 _ Y4.out.1 Y4.out.2).mono ?_; rintro e w5 ⟨a5, n5, k5, rfl, Y5⟩; have ld5 := Y5.out.1.ld)
      | (go_at_call 13; refine (KE.out _ _ c2 l2 Y5.out.1).mono ?_; rintro e w6 ⟨rfl, y6⟩; have Y6 := hid_of (And.intro y6.out.1 (And.intro (Exists.elim Y5.out.2.1 fun B hB => Exists.intro B (ow_below hB y6.out.2)) (Exists.elim Y5.out.2.2 fun B hB => Exists.intro B (ow_below hB y6.out.2)))); have ld6 := Y6.out.1.di.ld; clear y6)
      | (go_at_call 14; refine (KR.out _ _ c2 l2 Y6.out.1).mono ?_; rintro e w7 ⟨rfl, y7⟩; have Y7 := hid_of (And.intro y7.out.1 (And.intro (Exists.elim Y6.out.2.1 fun B hB => Exists.intro B (ow_below hB y7.out.2)) (Exists.elim Y6.out.2.2 fun B hB => Exists.intro B (ow_below hB y7.out.2)))); have ld7 := Y7.out.1.di.ld; have ld8 := Y7.out.1.ld; clear y7)
      | (go_at_call 15; refine (SE.out _ _ c2 l2 Y7.out.1).mono ?_; rintro e w8 ⟨rfl, h8⟩; have Y8 := hid_of (And.intro (Y7.out.1.below h8) (And.intro (Exists.elim Y7.out.2.1 fun B hB => Exists.intro B (ow_below hB h8)) (Exists.elim Y7.out.2.2 fun B hB => Exists.intro B (ow_below hB h8)))); have ld9 := Y8.out.1.di.ld; clear h8)
      | (go_at_call 16; refine (RR.out _ _ c2 l2 _ _ Y8.out.1 Y8.out.2.1 Y8.out.2.2).mono ?_; rintro e w9 ⟨rfl, v1, v2, h9⟩))
    go_ret
    exact ⟨ret_bool (by simp), h9⟩
end Go.Proofs.YtfmkafbdjfakkaaDoor

namespace Go.Proofs.YtfmkafbdjfakkaaDoor
open Go.ChangeShapes Go.WideShapes Go.ChangeAt Go.RowKit
set_option linter.unusedVariables false

namespace symBytes
set_option maxRecDepth 100000 in
theorem lifted (os : Os) (started : os.Started) (H : Type) (enc : TypeId × Value → H) :
    ReturnsInHanded {} Tryd.checked os 3 .any (fun w args => (Rows.symBytesSpec.pre enc Tryd.prog Tryd.f3 [] false w args ∧ laidMetH Tryd.prog Rows.symBytesRow.laid w) ∧ sizedMet enc Tryd.prog Tryd.f3 (OpenSpec.ofChange Rows.symBytesSpec) false w args)
      (Rows.symBytesSpec.post enc Tryd.prog Tryd.f3 false true false false) := by
  refine returns_sized (C := Tryd.checked) (X := fun w _ => laidMetH Tryd.prog Rows.symBytesRow.laid w) (fun _ _ _ hh h => h.of_heap hh) ownK started (by kernel_rfl) Tryd.func3
    (ChangeSpec.witness_shaped (enc := enc) (C := Tryd.checked) (os := os) (X := fun w _ => laidMetH Tryd.prog Rows.symBytesRow.laid w) false (World.laidAll Tryd.prog os Rows.symBytesRow.laid) #[.agg #[.string ⟨#[]⟩, .slice none 0 0, .slice none 0 0, .slice none 0 0]] 8 (World.laidAll_os _ _ _)
      (World.shaped_of_ZipB (by kernel_rfl) (by kernel_rfl)) (by kernel_rfl) (by kernel_rfl) (by kernel_rfl)
      (by rw [MakeChecks.laidMetH_plain _ _ _ (by kernel_rfl)]; exact laidMet_laidAll _ (by kernel_rfl) (by kernel_rfl))) ?_
  intro W base args ds gs before hS hL hval0 hW hZ
  have V := vs_laid rfl hL
  clear hS hL
  have hval : ∀ (j : Nat) t v, Tryd.f3.params[j]? = some t → args[j]? = some v → Value.okWide Tryd.prog W .any base t v := hval0
  have hW' := hW
  obtain ⟨p, q, hA0, hV, rfl, hfz, hnd⟩ := hW
  have hA : DataW.TrodAll enc Tryd.prog W 0 (fun _ => true) true Tryd.f3.params.toList args.toList ds p := hA0
  rw [Tryd.params3] at hA hval
  obtain ⟨v0, vs0, d0, ds0, p0, q0, hargs, rfl, rfl, h0, r0⟩ := trodAll_cons hA
  obtain ⟨rfl, rfl, rfl⟩ := trodAll_nil r0
  obtain rfl : args = #[v0] := by cases args; simp_all
  obtain ⟨rfl, rfl⟩ := trodVars_none hV
  have k0 := h0
  have lt0 : ∀ x ∈ p0, x.block < W.heap.size := by obtain ⟨m, hm⟩ := k0; exact DataW.trod_lt m _ _ _ hm
  obtain ⟨c, o, ls, hv0, hR⟩ : ∃ (c : Sc) (o : Sy) (ls : List (Pc × Sl)), v0 = .agg c.cells ∧ SyM W c o ls := by
    obtain ⟨es, gs', before', ⟨p', q', hB0, hV', _⟩, hsz0⟩ := hZ
    have hB : DataW.TrodAll enc Tryd.prog W 0 (fun _ => true) true Tryd.f3.params.toList [v0] es p' := hB0
    rw [Tryd.params3] at hB hsz0
    obtain ⟨_, _, e0, _, _, _, hx0, rfl, rfl, kk0, m1⟩ := trodAll_cons hB
    obtain ⟨rfl, rfl⟩ := List.cons.inj hx0
    obtain ⟨_, rfl, rfl⟩ := trodAll_nil m1
    have hsz : (DataW.weightsEach Tryd.prog _ _).all (· ≤ reachBytes) = true := hsz0
    obtain ⟨cs, rfl, _⟩ := okWide_struct Tryd.underlying26 (hval 0 26 v0 rfl rfl)
    obtain ⟨fuel0, hf0⟩ := kk0
    have hl : Lt 26 e0 := fun m hm => by
      have := List.all_eq_true.1 hsz _ (DataW.weights_mem_each (j := 0) (t := 26) (d := e0) rfl rfl m hm)
      simpa using this
    obtain ⟨c, o, ls, g1, g2⟩ := sym_of2 hf0 hl
    have g3 : cs.toList = c.cells.toList := g1
    exact ⟨c, o, ls, by rw [Array.toList_inj.1 g3], g2⟩
  subst hv0
  clear hA0 hval0 hZ
  refine (sbytes_any W V c o ls hR).mono fun e W' ⟨he, bel⟩ => ?_
  subst he
  exact ⟨_, rfl, _, _, _, [], _, [], hW', trodAll_mk1 (shut_bool Tryd.underlying4 _), (trodAll_cons_mk (Below.trod laidOutB8 (by kernel_rfl) (of_decide_eq_true (by kernel_rfl)) k0 bel lt0) trodAll_mk0), rfl, bel.frame _, fun h => by cases h⟩

theorem over : Rows.SymBytesSaid :=
  OpenClaim.holds_of_wide 3 Tryd.f3 rfl rfl rfl rfl rfl rfl rfl ⟨rfl, rfl, rfl, rfl, rfl⟩ rfl rfl rfl rfl rfl (by kernel_rfl) Tryd.func3 (by kernel_rfl)
    (of_decide_eq_true (by kernel_rfl)) (by unfold Func.isWrapper; first | (rw [if_pos (by decide +kernel)]; kernel_rfl) | (rw [if_neg (by decide +kernel)]; exact ⟨rfl, rfl⟩))
    (fun os started H enc _ => lifted os started H enc)
end symBytes
/-- The given card. -/
theorem symBytes_holds : Rows.SymBytesCardSaid :=
  Claim7.holds_tied_plain_at .later [] _ _ _ _ symBytes.over (fun _ h => by cases h) (by kernel_rfl) (fun _ h => by cases h) symBytes_row_tie rfl ⟨rfl, rfl⟩ (by kernel_rfl) rfl
    (fun f fn hf hfn => by
      obtain rfl : f = 3 := Option.some.inj ((show Tryd.prog.funcNamed "carrel/carrellaw13.SymBytes" = some 3 by kernel_rfl).symm.trans hf) |>.symm
      obtain rfl : fn = Tryd.f3 := (Option.some.inj (Tryd.func3.symm.trans hfn)).symm
      exact ⟨by kernel_rfl, fun j t ht => by
        rw [Tryd.params3] at ht
        have hm : t ∈ [26] := by simpa using Array.mem_of_getElem? ht
        have hall : ([26].all fun u => !Tryd.prog.wantsStandIn u) = true := by kernel_rfl
        exact (show Tryd.prog.wantsStandIn t = false by simpa using List.all_eq_true.1 hall t hm)⟩)
    (by kernel_rfl)
#print axioms symBytes_holds
end Go.Proofs.YtfmkafbdjfakkaaDoor
