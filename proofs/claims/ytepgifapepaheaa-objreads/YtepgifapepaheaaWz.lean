/-
  Layer 7: the writer's small functions, and that they leave all blocks but the writer's and its row's as they were.
-/
import Derived.Test.YtepgifapepaheaaWwd
import Derived.Maps.AppendAt
namespace Go.Proofs.Ytepgifapepaheaa
set_option linter.unusedVariables false
set_option linter.unusedSimpArgs false
open Go.ChangeShapes Go.WideShapes Go.ChangeAt Go.RowKit

/-- A row of the call's own became another: all blocks but its own are as they were; the new row lies in its block, or in a new one. -/
def Gr (w : World) (v : Value) (w' : World) (v' : Value) : Prop := w.grownBy w' v.ownBlock ∧ ∀ k, v'.ownBlock = some k → v.ownBlock = some k ∨ w.heap.size ≤ k
theorem Gr.refl (w : World) (v : Value) : Gr w v w v := ⟨⟨rfl, rfl, rfl, Nat.le_refl _, fun _ _ _ => rfl⟩, fun _ h => .inl h⟩
theorem Gr.trans {w w1 w2 : World} {v v1 v2 : Value} (h : Gr w v w1 v1) (g : Gr w1 v1 w2 v2) : Gr w v w2 v2 := by
  have hs := h.1.size
  refine ⟨⟨g.1.os.trans h.1.os, g.1.tape.trans h.1.tape, g.1.output.trans h.1.output, Nat.le_trans hs g.1.size, fun k hk hne => (g.1.block k (by omega) fun e => ?_).trans (h.1.block k hk hne)⟩, fun k hk => ?_⟩
  · rcases h.2 k e.symm with e1 | e1
    · exact hne e1.symm
    · omega
  · rcases g.2 k hk with e1 | e1
    · exact h.2 k e1
    · exact .inr (by omega)
theorem Gr.alloc (w : World) (v : Value) (x : Obj) : Gr w v (w.alloc x) v := ⟨World.grownBy_alloc w x _, fun _ h => .inl h⟩
theorem Gr.of {w w' : World} {v v' : Value} (hg : w.grownBy w' v.ownBlock) (hat : v'.ownBlock = v.ownBlock ∨ v'.ownBlock = some w.heap.size) : Gr w v w' v' := by
  refine ⟨hg, fun k hk => ?_⟩
  rcases hat with e | e
  · exact .inl (by rw [← e]; exact hk)
  · rw [e] at hk; injection hk with hk; exact .inr (by omega)
theorem Gr.below {w w' : World} {v v' : Value} {B : Nat} (h : Gr w v w' v') (hv : ∀ k, v.ownBlock = some k → B ≤ k) (hB : B ≤ w.heap.size) : Below B w w' := ⟨h.1.os, h.1.tape, h.1.output, h.1.size, fun k hk => h.1.block k (by omega) fun e => by have := hv k e.symm; omega⟩
set_option maxHeartbeats 1000000 in
theorem addUint_gr (B : Nat) (v : Value) (l : List Int) (n : Int) (w : World) (h : w.ownsRow B 5 1 v l.length (u8s l)) (hB : B ≤ w.heap.size) (n0 : 0 ≤ n) (n1 : n ≤ 4294967295) (hm : l.length + 5 ≤ 140737488355328) :
    Calls Try.prog 23 #[v, .int .u32 n] w fun e w' => ∃ v', e = .returned v' ∧ Ow w' B v' (l ++ numL 4 n) ∧ Gr w v w' v' := by
  obtain ⟨i0, hi, hz0, hz1, hz2⟩ := info_parts info5
  have HO : Hid (w.ownsRow B 5 1 v l.length (u8s l)) := h
  clear h
  go_enter Try.func23, Try.ntmps23
  go_wp2
  go_loopw [0, 1] (fun s x wr => ∃ (f : Nat) (m : Int) (l' : List Int), x = .int .u32 m ∧ 0 ≤ m ∧ m ≤ 4294967295 ∧ m < 128 ^ (f + 1) ∧ l' ++ numL f m = l ++ numL 4 n ∧ l'.length + f = l.length + 4 ∧ wr.ownsRow B 5 1 s l'.length (u8s l') ∧ Hid (Gr w v wr s)) (fun _ x _ => (intOf x).toNat)
  case atStart => exact ⟨4, n, l, rfl, n0, n1, by omega, rfl, rfl, HO.out, Gr.refl _ _⟩
  case round =>
    obtain ⟨f, m, l', rfl, m0, m1, hf, hl, hlen, hown, hgr⟩ := hrel
    have hsz := hgr.out.1.size
    have HL : Hid (l' ++ numL f m = l ++ numL 4 n) := hl
    have HF : Hid (m < 128 ^ (f + 1)) := hf
    clear hl hf
    by_cases hlt : 127 < m
    · have hgb := group_bits m m0 m1
      go_wp2_with (first
        | (at_builtin; refine wpList_append_own_at _ rfl _ _ 22 rfl B 5 i0 (.int .u8 0) 1 1 Try.underlying22 hi hz0 hz1 hz2 rfl (by decide) _ _ _ rfl (hown.alloc _) ⟨wr.heap.size, 0, none⟩ 1 1 [.int .u8 (m % 128 + 128)] rfl rfl ?c1 ?c2 ?c3 ?c4 ?c5 ?_)
        | go_in)
      case c1 => exact cell_one _ _ _
      case c2 => intro u hu; simp at hu; subst hu; rfl
      case c3 => unfold maxLen; omega
      case c4 => omega
      case c5 => simp; omega
      · intro s' w1 hown' hgrow _ hat
        have hgr' : Hid (Gr w v w1 s') := hgr.out.trans ((Gr.alloc wr _ _).trans (Gr.of hgrow (by simpa using hat)))
        obtain ⟨f', rfl⟩ : ∃ f', f = f' + 1 := by
          cases f with
          | zero => have := HF.out; omega
          | succ f' => exact ⟨f', rfl⟩
        have e1 : (l' ++ [m % 128 + 128]).length = l'.length + 1 := by simp
        have hown2 : w1.ownsRow B 5 1 s' (l' ++ [m % 128 + 128]).length (u8s (l' ++ [m % 128 + 128])) := by rw [e1, u8s_app]; exact hown'
        have hl2 : (l' ++ [m % 128 + 128]) ++ numL f' (m / 128) = l ++ numL 4 n := by rw [← HL.out, numL_big f' m (by omega)]; simp
        have hf2 : m / 128 < 128 ^ (f' + 1) := by have := HF.out; rw [Int.pow_succ] at this; omega
        have HN : Hid (w1.ownsRow B 5 1 s' (l' ++ [m % 128 + 128]).length (u8s (l' ++ [m % 128 + 128])) ∧ (l' ++ [m % 128 + 128]) ++ numL f' (m / 128) = l ++ numL 4 n ∧ m / 128 < 128 ^ (f' + 1)) := ⟨hown2, hl2, hf2⟩
        clear hown' hgrow hat hown hown2 hl2 hf2 hgr
        go_wp2
        go_roundw
        case rel => exact ⟨f', m / 128, l' ++ [m % 128 + 128], by go_num, by omega, by omega, HN.out.2.2, HN.out.2.1, by rw [e1]; omega, HN.out.1, hgr'⟩
        case measure => simp [intOf]; omega
    · go_wp2_with (first
        | (at_builtin; refine wpList_append_own_at _ rfl _ _ 22 rfl B 5 i0 (.int .u8 0) 1 1 Try.underlying22 hi hz0 hz1 hz2 rfl (by decide) _ _ _ rfl (hown.alloc _) ⟨wr.heap.size, 0, none⟩ 1 1 [.int .u8 m] rfl rfl (cell_one _ _ _) (by intro u hu; simp at hu; subst hu; rfl) (by unfold maxLen; omega) (by omega) (by simp; omega) ?_)
        | go_in)
      · intro s' w1 hown' hgrow _ hat
        have hgr' : Hid (Gr w v w1 s') := hgr.out.trans ((Gr.alloc wr _ _).trans (Gr.of hgrow (by simpa using hat)))
        have e1 : (l' ++ [m]).length = l'.length + 1 := by simp
        have hown2 : w1.ownsRow B 5 1 s' (l ++ numL 4 n).length (u8s (l ++ numL 4 n)) := by rw [← HL.out, numL_small f m (by omega), e1, u8s_app]; exact hown'
        clear hown' hgrow hat hown hgr
        go_wp2
        go_ret
        exact ⟨_, rfl, hown2, hgr'.out⟩
set_option maxRecDepth 20000 in
/-- A text's bytes put behind a row of bytes. -/
theorem app_text {X : World} {B : Nat} {v : Value} {l : List Int} (s : ByteArray) (h : Ow X B v l) (hB : B ≤ X.heap.size) (hn : l.length + s.size ≤ 140737488355328) :
    ∃ (v' : Value) (Y : World), (appN #[22, 9] 22 #[v, .string s]).run Try.prog X = .ok v' Y ∧ Ow Y B v' (l ++ sL s) ∧ Gr X v Y v' := by
  obtain ⟨i0, hi0, hz0, hz1, hz2⟩ := info_parts info5
  obtain ⟨v', Y, h1, h2, h3, _⟩ := Lib.run_append_own_string (P := Try.prog) X B 22 9 22 5 i0 Try.underlying22 Try.underlying9 hi0 hz0 hz1 hz2 v l.length (u8s l) h s (by unfold maxLen; omega) hn hB
  refine ⟨v', Y, h1, ?_, Gr.of h3 ?_⟩
  · rw [strCells_u8, ← u8s_app] at h2
    unfold Ow
    rw [List.length_append, sL_len]
    exact h2
  · unfold Ow at h
    rcases h.2 with ⟨rfl, h0⟩ | ⟨g, cap, cur, rfl, hbg, hg, hnc, hcm, hcs, htake⟩
    · by_cases hz : s.size = 0
      · left
        have hf := Lib.run_firstCells_string (P := Try.prog) X 1 s
        rw [hz] at hf
        have hr : (Builtin.append_ #[22, 9] 22 #[.slice none 0 0, .string s]).run Try.prog X = .ok (.slice none 0 0) X := by
          simp [Builtin.append_, run_underlying Try.underlying22, run_underlying Try.underlying9, sizeOf, typeInfo, hi0, hz1, Builtin.lenOf, hz, hf]
        rw [hr] at h1
        injection h1 with e _
        rw [← e]
      · right
        have hr := run_append_nil_string (P := Try.prog) X 22 9 22 5 i0 (.int .u8 0) Try.underlying22 Try.underlying9 hi0 hz0 s (by omega) (by omega) (by rw [hz2]; omega)
        rw [hr] at h1
        injection h1 with e _
        rw [← e]; rfl
    · by_cases hroom : l.length + s.size ≤ cap
      · left
        have hr := Lib.run_append_room_string (P := Try.prog) X 22 9 22 5 i0 Try.underlying22 Try.underlying9 hi0 hz1 g l.length cap cur hg s hroom (by rw [hcs]; omega)
        rw [hr] at h1
        injection h1 with e _
        rw [← e]; rfl
      · right
        have holds : ∀ j u, (u8s l)[j]? = some u → X.cell? ((⟨g, 0, none⟩ : Addr).add j) = some u := World.ownsRow.cells h (g := g) rfl
        have hr := Lib.run_append_grow_string (P := Try.prog) X 22 9 22 5 i0 (.int .u8 0) Try.underlying22 Try.underlying9 hi0 hz0 ⟨g, 0, none⟩ l.length cap (u8s l) (by rw [u8s_len, hz1]; omega) holds s (by omega) (by omega) (growslice_fits (by omega) (by rw [hz2]; omega))
        rw [hr] at h1
        injection h1 with e _
        rw [← e]; rfl
attribute [local go_sem ↓] appN_seal
theorem app_u8z {X : World} {B : Nat} {v : Value} {l : List Int} (x : Int) (h : Ow X B v l) (hB : B ≤ X.heap.size) (hn : l.length ≤ 1000000000) :
    ∃ (v' : Value) (Y : World), (appN #[22, 22] 22 #[v, .slice (some ⟨X.heap.size, 0, none⟩) 1 1]).run Try.prog (X.alloc (.cells #[.int .u8 x] 5)) = .ok v' Y ∧ Ow Y B v' (l ++ [x]) ∧ Gr X v Y v' := by
  obtain ⟨i0, hi0, hz0, hz1, hz2⟩ := info_parts info5
  have hbl : (X.alloc (.cells #[.int .u8 x] 5)).ownsRow B 5 1 v l.length (u8s l) := World.ownsRow.alloc h _
  obtain ⟨v', Y, h1, h2, h3, _, h5⟩ := run_append_own_at (P := Try.prog) (w := X.alloc (.cells #[.int .u8 x] 5)) B 22 22 5 i0 _ 1 1 Try.underlying22 hi0 hz0 hz1 hz2 rfl (by decide) v l.length (u8s l) hbl ⟨X.heap.size, 0, none⟩ 1 1 [.int .u8 x] rfl (cell_one _ _ _) (by intro u hu; simp at hu; subst hu; rfl) (by unfold maxLen; omega) (by omega) (by simp; omega)
  exact ⟨v', Y, h1, by unfold Ow; rw [List.length_append, u8s_app]; exact h2, (Gr.alloc _ _ _).trans (Gr.of h3 h5)⟩
end Go.Proofs.Ytepgifapepaheaa
