/-
  Layer 7: the writer's small functions, and that they leave all blocks but the writer's and its row's as they were.
-/
import Derived.Test.YtmfdomabegaidaaWwd
import Derived.Maps.AppendAt
namespace Go.Proofs.Ytmfdomabegaidaa
set_option linter.unusedVariables false
set_option linter.unusedSimpArgs false
open Go.ChangeShapes Go.WideShapes Go.ChangeAt Go.RowKit

/-- A row of the call's own became another: all blocks but its own are as they were; the new row lies in its block, or in a new one. -/
def Gr (w : World) (v : Value) (w' : World) (v' : Value) : Prop := w.grownBy w' v.ownBlock ∧ ∀ k, v'.ownBlock = some k → v.ownBlock = some k ∨ w.heap.size ≤ k
theorem Gr.refl (w : World) (v : Value) : Gr w v w v := ⟨⟨rfl, rfl, rfl, Nat.le_refl _, fun _ _ _ => rfl⟩, fun _ h => .inl h⟩
theorem Gr.trans {w w1 w2 : World} {v v1 v2 : Value} (h : Gr w v w1 v1) (g : Gr w1 v1 w2 v2) : Gr w v w2 v2 := by
  have hs := h.1.size
  refine ⟨⟨g.1.os.trans h.1.os, g.1.tape.trans h.1.tape, g.1.output.trans h.1.output, Nat.le_trans hs g.1.size, fun k hk hne => (g.1.block k (by omega) fun e => ?_).trans (h.1.block k hk hne)⟩, fun k hk => ?_⟩
  · rcases h.2 k e.symm with e1 | e1
    · exact hne e1.symm
    · omega
  · rcases g.2 k hk with e1 | e1
    · exact h.2 k e1
    · exact .inr (by omega)
theorem Gr.alloc (w : World) (v : Value) (x : Obj) : Gr w v (w.alloc x) v := ⟨World.grownBy_alloc w x _, fun _ h => .inl h⟩
theorem Gr.of {w w' : World} {v v' : Value} (hg : w.grownBy w' v.ownBlock) (hat : v'.ownBlock = v.ownBlock ∨ v'.ownBlock = some w.heap.size) : Gr w v w' v' := by
  refine ⟨hg, fun k hk => ?_⟩
  rcases hat with e | e
  · exact .inl (by rw [← e]; exact hk)
  · rw [e] at hk; injection hk with hk; exact .inr (by omega)
theorem Gr.below {w w' : World} {v v' : Value} {B : Nat} (h : Gr w v w' v') (hv : ∀ k, v.ownBlock = some k → B ≤ k) (hB : B ≤ w.heap.size) : Below B w w' := ⟨h.1.os, h.1.tape, h.1.output, h.1.size, fun k hk => h.1.block k (by omega) fun e => by have := hv k e.symm; omega⟩
set_option maxHeartbeats 1000000 in
theorem addUint_gr (B : Nat) (v : Value) (l : List Int) (n : Int) (w : World) (h : w.ownsRow B 5 1 v l.length (u8s l)) (hB : B ≤ w.heap.size) (n0 : 0 ≤ n) (n1 : n ≤ 4294967295) (hm : l.length + 5 ≤ 140737488355328) :
    Calls Try.prog 38 #[v, .int .u32 n] w fun e w' => ∃ v', e = .returned v' ∧ Ow w' B v' (l ++ numL 4 n) ∧ Gr w v w' v' := by
  obtain ⟨i0, hi, hz0, hz1, hz2⟩ := info_parts info5
  have HO : Hid (w.ownsRow B 5 1 v l.length (u8s l)) := h
  clear h
  go_enter Try.func38, Try.ntmps38
  go_wp2
  go_loopw [0, 1] (fun s x wr => ∃ (f : Nat) (m : Int) (l' : List Int), x = .int .u32 m ∧ 0 ≤ m ∧ m ≤ 4294967295 ∧ m < 128 ^ (f + 1) ∧ l' ++ numL f m = l ++ numL 4 n ∧ l'.length + f = l.length + 4 ∧ wr.ownsRow B 5 1 s l'.length (u8s l') ∧ Hid (Gr w v wr s)) (fun _ x _ => (intOf x).toNat)
  case atStart => exact ⟨4, n, l, rfl, n0, n1, by omega, rfl, rfl, HO.out, Gr.refl _ _⟩
  case round =>
    obtain ⟨f, m, l', rfl, m0, m1, hf, hl, hlen, hown, hgr⟩ := hrel
    have hsz := hgr.out.1.size
    have HL : Hid (l' ++ numL f m = l ++ numL 4 n) := hl
    have HF : Hid (m < 128 ^ (f + 1)) := hf
    clear hl hf
    by_cases hlt : 127 < m
    · have hgb := group_bits m m0 m1
      go_wp2_with (first
        | (at_builtin; refine wpList_append_own_at _ rfl _ _ 35 rfl B 5 i0 (.int .u8 0) 1 1 Try.underlying35 hi hz0 hz1 hz2 rfl (by decide) _ _ _ rfl (hown.alloc _) ⟨wr.heap.size, 0, none⟩ 1 1 [.int .u8 (m % 128 + 128)] rfl rfl ?c1 ?c2 ?c3 ?c4 ?c5 ?_)
        | go_in)
      case c1 => exact cell_one _ _ _
      case c2 => intro u hu; simp at hu; subst hu; rfl
      case c3 => unfold maxLen; omega
      case c4 => omega
      case c5 => simp; omega
      · intro s' w1 hown' hgrow _ hat
        have hgr' : Hid (Gr w v w1 s') := hgr.out.trans ((Gr.alloc wr _ _).trans (Gr.of hgrow (by simpa using hat)))
        obtain ⟨f', rfl⟩ : ∃ f', f = f' + 1 := by
          cases f with
          | zero => have := HF.out; omega
          | succ f' => exact ⟨f', rfl⟩
        have e1 : (l' ++ [m % 128 + 128]).length = l'.length + 1 := by simp
        have hown2 : w1.ownsRow B 5 1 s' (l' ++ [m % 128 + 128]).length (u8s (l' ++ [m % 128 + 128])) := by rw [e1, u8s_app]; exact hown'
        have hl2 : (l' ++ [m % 128 + 128]) ++ numL f' (m / 128) = l ++ numL 4 n := by rw [← HL.out, numL_big f' m (by omega)]; simp
        have hf2 : m / 128 < 128 ^ (f' + 1) := by have := HF.out; rw [Int.pow_succ] at this; omega
        have HN : Hid (w1.ownsRow B 5 1 s' (l' ++ [m % 128 + 128]).length (u8s (l' ++ [m % 128 + 128])) ∧ (l' ++ [m % 128 + 128]) ++ numL f' (m / 128) = l ++ numL 4 n ∧ m / 128 < 128 ^ (f' + 1)) := ⟨hown2, hl2, hf2⟩
        clear hown' hgrow hat hown hown2 hl2 hf2 hgr
        go_wp2
        go_roundw
        case rel => exact ⟨f', m / 128, l' ++ [m % 128 + 128], by go_num, by omega, by omega, HN.out.2.2, HN.out.2.1, by rw [e1]; omega, HN.out.1, hgr'⟩
        case measure => simp [intOf]; omega
    · go_wp2_with (first
        | (at_builtin; refine wpList_append_own_at _ rfl _ _ 35 rfl B 5 i0 (.int .u8 0) 1 1 Try.underlying35 hi hz0 hz1 hz2 rfl (by decide) _ _ _ rfl (hown.alloc _) ⟨wr.heap.size, 0, none⟩ 1 1 [.int .u8 m] rfl rfl (cell_one _ _ _) (by intro u hu; simp at hu; subst hu; rfl) (by unfold maxLen; omega) (by omega) (by simp; omega) ?_)
        | go_in)
      · intro s' w1 hown' hgrow _ hat
        have hgr' : Hid (Gr w v w1 s') := hgr.out.trans ((Gr.alloc wr _ _).trans (Gr.of hgrow (by simpa using hat)))
        have e1 : (l' ++ [m]).length = l'.length + 1 := by simp
        have hown2 : w1.ownsRow B 5 1 s' (l ++ numL 4 n).length (u8s (l ++ numL 4 n)) := by rw [← HL.out, numL_small f m (by omega), e1, u8s_app]; exact hown'
        clear hown' hgrow hat hown hgr
        go_wp2
        go_ret
        exact ⟨_, rfl, hown2, hgr'.out⟩
set_option maxRecDepth 20000 in
/-- A text's bytes put behind a row of bytes. -/
theorem app_text {X : World} {B : Nat} {v : Value} {l : List Int} (s : ByteArray) (h : Ow X B v l) (hB : B ≤ X.heap.size) (hn : l.length + s.size ≤ 140737488355328) :
    ∃ (v' : Value) (Y : World), (appN #[35, 9] 35 #[v, .string s]).run Try.prog X = .ok v' Y ∧ Ow Y B v' (l ++ sL s) ∧ Gr X v Y v' := by
  obtain ⟨i0, hi0, hz0, hz1, hz2⟩ := info_parts info5
  obtain ⟨v', Y, h1, h2, h3, _⟩ := Lib.run_append_own_string (P := Try.prog) X B 35 9 35 5 i0 Try.underlying35 Try.underlying9 hi0 hz0 hz1 hz2 v l.length (u8s l) h s (by unfold maxLen; omega) hn hB
  refine ⟨v', Y, h1, ?_, Gr.of h3 ?_⟩
  · rw [strCells_u8, ← u8s_app] at h2
    unfold Ow
    rw [List.length_append, sL_len]
    exact h2
  · unfold Ow at h
    rcases h.2 with ⟨rfl, h0⟩ | ⟨g, cap, cur, rfl, hbg, hg, hnc, hcm, hcs, htake⟩
    · by_cases hz : s.size = 0
      · left
        have hf := Lib.run_firstCells_string (P := Try.prog) X 1 s
        rw [hz] at hf
        have hr : (Builtin.append_ #[35, 9] 35 #[.slice none 0 0, .string s]).run Try.prog X = .ok (.slice none 0 0) X := by
          simp [Builtin.append_, run_underlying Try.underlying35, run_underlying Try.underlying9, sizeOf, typeInfo, hi0, hz1, Builtin.lenOf, hz, hf]
        rw [hr] at h1
        injection h1 with e _
        rw [← e]
      · right
        have hr := run_append_nil_string (P := Try.prog) X 35 9 35 5 i0 (.int .u8 0) Try.underlying35 Try.underlying9 hi0 hz0 s (by omega) (by omega) (by rw [hz2]; omega)
        rw [hr] at h1
        injection h1 with e _
        rw [← e]; rfl
    · by_cases hroom : l.length + s.size ≤ cap
      · left
        have hr := Lib.run_append_room_string (P := Try.prog) X 35 9 35 5 i0 Try.underlying35 Try.underlying9 hi0 hz1 g l.length cap cur hg s hroom (by rw [hcs]; omega)
        rw [hr] at h1
        injection h1 with e _
        rw [← e]; rfl
      · right
        have holds : ∀ j u, (u8s l)[j]? = some u → X.cell? ((⟨g, 0, none⟩ : Addr).add j) = some u := World.ownsRow.cells h (g := g) rfl
        have hr := Lib.run_append_grow_string (P := Try.prog) X 35 9 35 5 i0 (.int .u8 0) Try.underlying35 Try.underlying9 hi0 hz0 ⟨g, 0, none⟩ l.length cap (u8s l) (by rw [u8s_len, hz1]; omega) holds s (by omega) (by omega) (growslice_fits (by omega) (by rw [hz2]; omega))
        rw [hr] at h1
        injection h1 with e _
        rw [← e]; rfl
attribute [local go_sem ↓] appN_seal
set_option maxHeartbeats 1000000 in
theorem addText_gr (B : Nat) (v : Value) (l : List Int) (s : ByteArray) (w : World) (h : w.ownsRow B 5 1 v l.length (u8s l)) (hB : B ≤ w.heap.size) (hm : l.length + 5 + s.size ≤ 140737488355328) :
    Calls Try.prog 108 #[v, .string s] w fun e w' => ∃ v', e = .returned v' ∧ Ow w' B v' (l ++ textL s) ∧ Gr w v w' v' := by
  have HO : Hid (w.ownsRow B 5 1 v l.length (u8s l)) := h
  have hlo := fun k hk => (h.lt k hk).1
  have hn := numL_len 4 ((s.size : Int) % 4294967296)
  have AP : Hid (∀ X v1, Ow X B v1 (l ++ numL 4 ((s.size : Int) % 4294967296)) → Gr w v X v1 → ∃ (v' : Value) (Y : World), (appN #[35, 9] 35 #[v1, .string s]).run Try.prog X = .ok v' Y ∧ Hid (Ow Y B v' (l ++ textL s) ∧ Gr w v Y v')) := fun X v1 hX hg => by
    obtain ⟨v', Y, h1, h2, h3⟩ := app_text s hX (by have := hg.1.size; omega) (by simp; omega)
    exact ⟨v', Y, h1, by rw [textL, ← List.append_assoc]; exact h2, hg.trans h3⟩
  clear h hlo
  go_enter Try.func108, Try.ntmps108
  go_wp2_with (first
    | (go_at_call 38; refine (addUint_gr B v l ((s.size : Int) % 4294967296) _ HO.out hB (by omega) (by omega) (by omega)).mono ?_; rintro e w1 ⟨v1, rfl, hown1, hb1⟩; obtain ⟨v2, w2, hrun, HR⟩ := AP.out w1 v1 hown1 hb1; clear hown1 hb1)
    | go_in)
  go_ret
  exact ⟨_, rfl, HR.out.1, HR.out.2⟩
/-- A block that is not the writer's row's. -/
def Wf (X : World) (p k : Nat) : Prop := ∀ a n c, X.heap[p]? = some (.cells #[.slice a n c] 51 (0, 0)) → (Value.slice a n c).ownBlock ≠ some k
/-- What the writer leaves. -/
structure Wk (w w' : World) (p : Nat) : Prop where
  os : w'.os = w.os
  tape : w'.tape = w.tape
  output : w'.output = w.output
  size : w.heap.size ≤ w'.heap.size
  blk : ∀ k, k < w.heap.size → k ≠ p → Wf w p k → w'.heap[k]? = w.heap[k]? ∧ Wf w' p k
theorem Wk.trans {w w1 w2 : World} {p : Nat} (h : Wk w w1 p) (g : Wk w1 w2 p) : Wk w w2 p :=
  ⟨g.os.trans h.os, g.tape.trans h.tape, g.output.trans h.output, Nat.le_trans h.size g.size, fun k hk hp hf => by
    obtain ⟨e1, f1⟩ := h.blk k hk hp hf
    obtain ⟨e2, f2⟩ := g.blk k (Nat.lt_of_lt_of_le hk h.size) hp f1
    exact ⟨e2.trans e1, f2⟩⟩
theorem Wk.refl (w : World) (p : Nat) : Wk w w p := ⟨rfl, rfl, rfl, Nat.le_refl _, fun _ _ _ h => ⟨rfl, h⟩⟩
theorem Wk.below {w w' : World} {p : Nat} (hp : p < w.heap.size) (h : Below w.heap.size w w') : Wk w w' p := ⟨h.os, h.tape, h.output, h.size, fun k hk _ hf => ⟨h.block k hk, fun a n c e => hf a n c ((h.block p hp).symm.trans e)⟩⟩
theorem Wk.tq {w w' : World} {p B : Nat} {l : List Int} (h : Wk w w' p) (hw : Wr w p B l) : Tq w w' (fun k => k = p ∨ B ≤ k) := by
  refine ⟨h.os, h.tape, h.output, h.size, fun k hk hn => (h.blk k hk (fun e => hn (.inl e)) ?_).1⟩
  obtain ⟨a, n, c, hb, ho⟩ := hw.lies
  intro a' n' c' e
  rw [hb] at e
  injection e with e; injection e with e _; injection e with e; injection e with e _
  rw [← e]
  intro e2
  exact hn (.inr (own_lo ho k e2))
def PostZ (w : World) (p B : Nat) (l : List Int) (e : Ending) (w' : World) : Prop := e = .returned (.tuple #[]) ∧ Wr w' p B l ∧ Wk w w' p
/-- The row's new value is put into the writer's cell. -/
theorem Wr.putz {w X : World} {p B : Nat} {l : List Int} {a : Option Addr} {n c : Nat} {v' : Value} (hb : w.heap[p]? = some (.cells #[.slice a n c] 51 (0, 0))) (hv : ∀ k, (Value.slice a n c).ownBlock = some k → B ≤ k) (ho : Ow X B v' l) (hg : Gr w (.slice a n c) X v') (lo : p < B) (hi : B ≤ w.heap.size) (few : l.length ≤ 1000000000) :
    (∃ a' n' c', v' = .slice a' n' c') ∧ X.cell? ⟨p, 0, none⟩ = some (.slice a n c) ∧ X.frozen? ⟨p, 0, none⟩ = false ∧ Hid (Wr (X.setCell ⟨p, 0, none⟩ v') p B l ∧ Wk w (X.setCell ⟨p, 0, none⟩ v') p) := by
  have hs := hg.1.size
  have hX : X.heap[p]? = some (.cells #[.slice a n c] 51 (0, 0)) := (hg.1.block p (by omega) fun e => by have := hv p e.symm; omega).trans hb
  obtain ⟨a', n', c', rfl⟩ := own_slice ho
  have hY := Go.Joins.block_setCell (i := 0) hX (.slice a' n' c')
  refine ⟨⟨a', n', c', rfl⟩, blk_cell hX 0, blk_fz hX 0, ⟨⟨a', n', c', hY, ho.set lo⟩, lo, by simp; omega, few⟩, ⟨hg.1.os, hg.1.tape, hg.1.output, by simpa using hs, fun k hk hp hf => ⟨(Below.heap_setCell _ _ _ _ hp).trans (hg.1.block k hk fun e => hf _ _ _ hb e.symm), fun a2 n2 c2 e e2 => ?_⟩⟩⟩
  have hY2 : (X.setCell ⟨p, 0, none⟩ (.slice a' n' c')).heap[p]? = some (.cells #[.slice a' n' c'] 51 (0, 0)) := hY
  rw [hY2] at e
  injection e with e; injection e with e _; injection e with e; injection e with e _
  rw [← e] at e2
  rcases hg.2 k e2 with e3 | e3
  · exact hf _ _ _ hb e3
  · omega
set_option maxHeartbeats 2000000 in
set_option maxRecDepth 20000 in
theorem number_z (w : World) (p B : Nat) (l : List Int) (h : Wr w p B l) (n : Int) (n0 : 0 ≤ n) (n1 : n ≤ 4294967295) (hl : l.length ≤ 900000000) : Calls Try.prog 58 #[.pointer (some ⟨p, 0, none⟩), .int .i64 n] w (PostZ w p B (l ++ numL 4 n)) := by
  obtain ⟨a, k, c, hb, ho⟩ := h.lies
  have lo := h.lo
  have hi := h.hi
  have A : Hid (Calls Try.prog 38 #[.slice a k c, .int .u32 n] w _) := addUint_gr B _ l n w ho hi n0 n1 (by omega)
  have c0 : w.cell? ⟨p, 0, none⟩ = some (.slice a k c) := blk_cell hb 0
  have hlen := numL_len 4 n
  have PT : Hid (∀ X v', Ow X B v' (l ++ numL 4 n) → Gr w (.slice a k c) X v' → _) := fun X v' hX hg => Wr.putz hb (own_lo ho) hX hg lo hi (by simp; omega)
  clear h hb ho
  go_enter Try.func58, Try.ntmps58
  go_wp2_with (go_at_call 38; (refine A.out.mono ?_; rintro e w1 ⟨v, rfl, ho1, hb1⟩; obtain ⟨⟨a2, n2, c2, hv⟩, k0, z0, R⟩ := PT.out w1 v ho1 hb1; subst hv; clear ho1 hb1))
  go_end0
  exact ⟨rfl, R.out⟩
set_option maxHeartbeats 2000000 in
set_option maxRecDepth 20000 in
theorem text_z (w : World) (p B : Nat) (l : List Int) (h : Wr w p B l) (s : ByteArray) (hs : s.size ≤ 1000) (hl : l.length ≤ 900000000) : Calls Try.prog 59 #[.pointer (some ⟨p, 0, none⟩), .string s] w (PostZ w p B (l ++ textL s)) := by
  obtain ⟨a, k, c, hb, ho⟩ := h.lies
  have lo := h.lo
  have hi := h.hi
  have A : Hid (Calls Try.prog 108 #[.slice a k c, .string s] w _) := addText_gr B _ l s w ho hi (by omega)
  have c0 : w.cell? ⟨p, 0, none⟩ = some (.slice a k c) := blk_cell hb 0
  have hlen : (textL s).length ≤ 1005 := by unfold textL; rw [List.length_append, sL_len]; have := numL_len 4 ((s.size : Int) % 4294967296); omega
  have PT : Hid (∀ X v', Ow X B v' (l ++ textL s) → Gr w (.slice a k c) X v' → _) := fun X v' hX hg => Wr.putz hb (own_lo ho) hX hg lo hi (by rw [List.length_append]; omega)
  clear h hb ho
  go_enter Try.func59, Try.ntmps59
  go_wp2_with (go_at_call 108; (refine A.out.mono ?_; rintro e w1 ⟨v, rfl, ho1, hb1⟩; obtain ⟨⟨a2, n2, c2, hv⟩, k0, z0, R⟩ := PT.out w1 v ho1 hb1; subst hv; clear ho1 hb1))
  go_end0
  exact ⟨rfl, R.out⟩
theorem app_u8z {X : World} {B : Nat} {v : Value} {l : List Int} (x : Int) (h : Ow X B v l) (hB : B ≤ X.heap.size) (hn : l.length ≤ 1000000000) :
    ∃ (v' : Value) (Y : World), (appN #[35, 35] 35 #[v, .slice (some ⟨X.heap.size, 0, none⟩) 1 1]).run Try.prog (X.alloc (.cells #[.int .u8 x] 5)) = .ok v' Y ∧ Ow Y B v' (l ++ [x]) ∧ Gr X v Y v' := by
  obtain ⟨i0, hi0, hz0, hz1, hz2⟩ := info_parts info5
  have hbl : (X.alloc (.cells #[.int .u8 x] 5)).ownsRow B 5 1 v l.length (u8s l) := World.ownsRow.alloc h _
  obtain ⟨v', Y, h1, h2, h3, _, h5⟩ := run_append_own_at (P := Try.prog) (w := X.alloc (.cells #[.int .u8 x] 5)) B 35 35 5 i0 _ 1 1 Try.underlying35 hi0 hz0 hz1 hz2 rfl (by decide) v l.length (u8s l) hbl ⟨X.heap.size, 0, none⟩ 1 1 [.int .u8 x] rfl (cell_one _ _ _) (by intro u hu; simp at hu; subst hu; rfl) (by unfold maxLen; omega) (by omega) (by simp; omega)
  exact ⟨v', Y, h1, by unfold Ow; rw [List.length_append, u8s_app]; exact h2, (Gr.alloc _ _ _).trans (Gr.of h3 h5)⟩
set_option maxHeartbeats 2000000 in
set_option maxRecDepth 20000 in
theorem octet_z (w : World) (p B : Nat) (l : List Int) (h : Wr w p B l) (x : Int) (hl : l.length ≤ 900000000) : Calls Try.prog 74 #[.pointer (some ⟨p, 0, none⟩), .int .u8 x] w (PostZ w p B (l ++ [x])) := by
  obtain ⟨a, k, c, hb, ho⟩ := h.lies
  have lo := h.lo
  have hi := h.hi
  have c0 : w.cell? ⟨p, 0, none⟩ = some (.slice a k c) := blk_cell hb 0
  obtain ⟨v', Y, hrun, hoY, hgr⟩ := app_u8z x ho hi (by omega)
  obtain ⟨⟨a2, n2, c2, hv⟩, k0, z0, R⟩ := Wr.putz hb (own_lo ho) hoY hgr lo hi (by rw [List.length_append]; simp; omega)
  subst hv
  clear h hb ho hoY hgr
  go_enter Try.func74, Try.ntmps74
  go_wp2
  go_end0
  exact ⟨rfl, R.out⟩
theorem flag_z (w : World) (p B : Nat) (l : List Int) (h : Wr w p B l) (x : Bool) (hl : l.length ≤ 900000000) : Calls Try.prog 67 #[.pointer (some ⟨p, 0, none⟩), .bool x] w (PostZ w p B (l ++ [if x then 1 else 0])) := by
  have O : Hid (∀ y, Calls Try.prog 74 #[.pointer (some ⟨p, 0, none⟩), .int .u8 y] w (PostZ w p B (l ++ [y]))) := fun y => octet_z w p B l h y hl
  clear h
  cases x
  all_goals
    go_enter Try.func67, Try.ntmps67
    go_wp2_with (go_at_call 74; refine (O.out _).mono ?_; rintro e w1 ⟨rfl, hr⟩)
    go_end0
    exact ⟨rfl, hr⟩
set_option maxHeartbeats 2000000 in
set_option maxRecDepth 20000 in
theorem word_z (w : World) (p B : Nat) (l : List Int) (h : Wr w p B l) (x : Int) (hl : l.length ≤ 900000000) : Calls Try.prog 60 #[.pointer (some ⟨p, 0, none⟩), .int .u32 x] w (PostZ w p B (l ++ wdL x)) := by
  obtain ⟨a, k, c, hb, ho⟩ := h.lies
  have lo := h.lo
  have hi := h.hi
  have hkl : k = l.length := by
    unfold Ow at ho
    rcases ho.2 with ⟨hv, h0⟩ | ⟨g', cap, cur, hv, _⟩
    · injection hv with _ e _; rw [e, h0]
    · injection hv
  have c0 : w.cell? ⟨p, 0, none⟩ = some (.slice a k c) := blk_cell hb 0
  obtain ⟨s, Y, hrun, hoY, hgY, hat⟩ := app_zeros ho hi (by omega)
  obtain ⟨_, k0, z0, R⟩ := Wr.putz hb (own_lo ho) hoY (Gr.of hgY hat) lo hi (by rw [List.length_append]; simp; omega)
  obtain ⟨g, c2, hv, hg1, hg2⟩ := ow_at hoY (by simp)
  obtain ⟨sa, sn, sc⟩ := s
  simp only at hv hrun hoY R hat
  injection hv with e1 e2 e3
  subst e1 e2 e3
  rw [show (l ++ [(0 : Int), 0, 0, 0]).length = l.length + 4 by simp] at hrun hoY R
  have PO : Hid (Calls Try.prog 37 #[.slice (some ⟨g, 0, none⟩) ((l.length + 4 : Nat)) sc, .int .i64 (l.length : Int), .int .u32 x] (Y.setCell ⟨p, 0, none⟩ (.slice (some ⟨g, 0, none⟩) (l.length + 4) sc)) fun e w' => e = .returned (.bool true) ∧ PostZ w p B (l ++ wdL x) (.returned (.tuple #[])) w') := by
    have hne : p ≠ g := by omega
    obtain ⟨⟨qa, qn, qc, hq, _⟩, _, qh, _⟩ := R.out.1
    have hp2 := (Array.getElem?_eq_some_iff.1 hq).1
    have hq2 : (Y.setCell ⟨p, 0, none⟩ (.slice (some ⟨g, 0, none⟩) (l.length + 4) sc)).heap[p]? = some (.cells #[.slice (some ⟨g, 0, none⟩) (l.length + 4) sc] 51 (0, 0)) := by
      have hYp : Y.heap[p]? = some (.cells #[.slice a k c] 51 (0, 0)) := (hgY.block p (by omega) (fun e => by have := own_lo ho p e.symm; omega)).trans hb
      exact Go.Joins.block_setCell hYp _
    refine (put_own B g sc l x _ (Ow.set hoY lo) (by omega)).mono fun e w' hh => ?_
    have hwp : w'.heap[p]? = some (.cells #[.slice (some ⟨g, 0, none⟩) (l.length + 4) sc] 51 (0, 0)) := (hh.2.2.block p hp2 (fun e => hne (by injection e))).trans hq2
    refine ⟨hh.1, rfl, ⟨⟨some ⟨g, 0, none⟩, l.length + 4, sc, hwp, hh.2.1⟩, lo, ?_, by rw [List.length_append]; simp [wdL]; omega⟩, R.out.2.trans ⟨hh.2.2.os, hh.2.2.tape, hh.2.2.output, hh.2.2.size, fun k hk hkp hf => ⟨hh.2.2.block k hk (fun e => hf _ _ _ hq2 (by rw [e]; rfl)), fun a2 n2 c2 e e2 => ?_⟩⟩⟩
    · have := hh.2.2.size; omega
    · rw [hwp] at e
      injection e with e; injection e with e _; injection e with e; injection e with e _
      rw [← e] at e2
      exact hf _ _ _ hq2 e2
  clear h hb ho hoY hgY R hat
  subst hkl
  go_enter Try.func60, Try.ntmps60
  go_wp2_with (go_at_call 37; refine PO.out.mono ?_; rintro e w1 ⟨rfl, hr⟩)
  go_end0
  exact hr
end Go.Proofs.Ytmfdomabegaidaa
