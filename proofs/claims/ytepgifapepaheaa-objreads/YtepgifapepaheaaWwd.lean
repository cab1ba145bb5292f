/-
  Layer 7: the writer writes a word: four noughts put behind its bytes, then the word's bytes in their place.
-/
import Derived.Test.YtepgifapepaheaaWrs
import Derived.Lib.AppendZerosOnto
namespace Go.Proofs.Ytepgifapepaheaa
set_option linter.unusedVariables false
set_option linter.unusedSimpArgs false
open Go.ChangeShapes Go.WideShapes Go.ChangeAt Go.RowKit

theorem Ow.setAt {w : World} {B g n c : Nat} {l : List Int} (h : Ow w B (.slice (some ⟨g, 0, none⟩) n c) l) (i : Nat) (x : Int) : Ow (w.setCell ⟨g, i, none⟩ (.int .u8 x)) B (.slice (some ⟨g, 0, none⟩) n c) (l.set i x) := by
  unfold Ow at *
  refine ⟨by simp [u8s], ?_⟩
  rcases h.2 with ⟨hv, _⟩ | ⟨g', cap, cur, hv, hb, hg, h1, h2, h3, h4⟩
  · cases hv
  · injection hv with e1 e2 e3
    injection e1 with e1
    injection e1 with e1 _ _
    subst e1 e3
    refine .inr ⟨g, c, cur.setIfInBounds i (.int .u8 x), by rw [List.length_set, ← e2], hb, Go.Joins.block_setCell hg _, by simpa using h1, h2, by simpa using h3, ?_⟩
    have hm : u8s (l.set i x) = (u8s l).set i (.int .u8 x) := by unfold u8s; rw [List.map_set]
    rw [hm, ← h4, Array.toList_setIfInBounds, List.length_set, List.take_set]
/-- A word's bytes, the first k of them, noughts behind. -/
def part4 (v : Int) (k : Nat) : List Int := (List.range k).map (byteOf v) ++ List.replicate (4 - k) 0
def wdL (v : Int) : List Int := [byteOf v 0, byteOf v 1, byteOf v 2, byteOf v 3]
theorem part4_all (v : Int) : part4 v 4 = wdL v := rfl
theorem part4_len (v : Int) (k : Nat) (h : k ≤ 4) : (part4 v k).length = 4 := by simp [part4]; omega
theorem part4_step (v : Int) (k : Nat) (h : k < 4) (l : List Int) : (l ++ part4 v k).set (l.length + k) (byteOf v k) = l ++ part4 v (k + 1) := by
  rw [List.set_append_right _ _ (by omega), Nat.add_sub_cancel_left]
  congr 1
  have : k = 0 ∨ k = 1 ∨ k = 2 ∨ k = 3 := by omega
  rcases this with rfl | rfl | rfl | rfl <;> rfl
theorem ow_cell {w : World} {B g n c : Nat} {l : List Int} (h : Ow w B (.slice (some ⟨g, 0, none⟩) n c) l) (i : Nat) (hi : i < l.length) : w.cell? ⟨g, i, none⟩ = some (.int .u8 (l.getD i 0)) ∧ w.frozen? ⟨g, i, none⟩ = false := by
  constructor
  · have hc := World.ownsRow.cells h (g := g) rfl i (.int .u8 (l.getD i 0)) (by unfold u8s; rw [List.getElem?_map, List.getElem?_eq_getElem hi, List.getD_eq_getElem?_getD, List.getElem?_eq_getElem hi]; rfl)
    rwa [show (⟨g, 0, none⟩ : Addr).add i = ⟨g, i, none⟩ by (simp [Addr.add]; omega)] at hc
  · unfold Ow at h
    rcases h.2 with ⟨hv, _⟩ | ⟨g', cap, cur, hv, hb, hg, h1, h2, h3, h4⟩
    · cases hv
    · injection hv with e1 e2 e3
      injection e1 with e1
      injection e1 with e1 _ _
      subst e1
      simp [World.frozen?, hg]
theorem ow_at {w : World} {B : Nat} {v : Value} {l : List Int} (h : Ow w B v l) (h0 : l ≠ []) : ∃ g c, v = .slice (some ⟨g, 0, none⟩) l.length c ∧ B ≤ g ∧ g < w.heap.size := by
  unfold Ow at h
  rcases h.2 with ⟨hv, hn⟩ | ⟨g', cap, cur, hv, hb, hg, h1, h2, h3, h4⟩
  · exact absurd (List.eq_nil_of_length_eq_zero hn) h0
  · exact ⟨g', cap, hv, hb, (Array.getElem?_eq_some_iff.1 hg).1⟩
/-- Four noughts put behind a row of bytes. -/
theorem run_append_room_zeros {P : Program} (w : World) (t tn ty e : TypeId) (i : TypeInfo) (z : Value) (kq kn : IntKind) (ht : P.underlying t = some (.slice e)) (htn : P.underlying tn = some (.int kn)) (hi : P.info? e = some i) (hz : i.zero = some z)
    (g sLen sCap : Nat) (cur : Array Value) (hg : w.heap[g]? = some (.cells cur e (0, 0))) (k : Nat) (h0 : 0 < k) (hs : 0 < i.size) (h48 : k * i.bytes ≤ 281474976710656) (hk63 : k ≤ 9223372036854775807) (h1 : ∀ u ∈ (Builtin.zeroCells z.cells k).toList, u.oneCell' = true)
    (hroom : sLen + k ≤ sCap) (hfit : sLen * i.size + (Builtin.zeroCells z.cells k).toList.length ≤ cur.size) :
    (Builtin.append_ #[t, tn] ty #[.slice (some ⟨g, 0, none⟩) sLen sCap, .int kq k]).run P w =
      .ok (.slice (some ⟨g, 0, none⟩) (sLen + k) sCap) (w.setRow g (cur.toList.take (sLen * i.size) ++ (Builtin.zeroCells z.cells k).toList ++ cur.toList.drop (sLen * i.size + (Builtin.zeroCells z.cells k).toList.length)).toArray) := by
  have hst := run_storeCells_at P g (sLen * i.size) e (Builtin.zeroCells z.cells k).toList 0 cur w hg (by simpa using hfit) h1
  simp only [Nat.add_zero] at hst
  have hk : k ≠ 0 := by omega
  have hw : IntKind.i64.wrap (k : Int) = k := by rw [IntKind.wrap_i64]; omega
  have h48i : ¬ (281474976710656 < (k : Int) * (i.bytes : Int)) := by
    rw [← Int.natCast_mul]
    omega
  have hneg : ¬ ((k : Int) < 0) := by omega
  have hns : ¬ (k * i.size = 0) := Nat.mul_ne_zero hk (by omega)
  simp [Builtin.append_, run_underlying ht, run_underlying htn, sizeOf, typeInfo, zeroValue, hi, hz, asInt, asIntOf, hw, hneg, hns, h48i, hroom, Addr.add_lit, hst]
theorem zero4 : (Builtin.zeroCells (Value.int .u8 0).cells 4) = #[.int .u8 0, .int .u8 0, .int .u8 0, .int .u8 0] := by kernel_rfl
theorem app_zeros {X : World} {B : Nat} {v : Value} {l : List Int} (h : Ow X B v l) (hB : B ≤ X.heap.size) (hn : l.length ≤ 1000000000) :
    ∃ (s : Sl) (Y : World), (appN #[22, 3] 22 #[v, .int .i64 4]).run Try.prog X = .ok (.slice s.a s.n s.c) Y ∧ Ow Y B (.slice s.a s.n s.c) (l ++ [0, 0, 0, 0]) ∧ X.grownBy Y v.ownBlock ∧ ((Value.slice s.a s.n s.c).ownBlock = v.ownBlock ∨ (Value.slice s.a s.n s.c).ownBlock = some X.heap.size) := by
  obtain ⟨i0, hi0, hz0, hz1, hz2⟩ := info_parts info5
  have hsz : 0 < i0.size := by rw [hz1]; omega
  unfold Ow at h
  have hlen4 : (l ++ [0, 0, 0, 0]).length = l.length + 4 := by simp
  have grown : ∀ (old : Nat) (row : Option Nat), old < l.length + 4 →
      (X.drew.alloc (.cells ((u8s l).toArray ++ Builtin.zeroCells (Value.int .u8 0).cells 4 ++ Builtin.zeroCells (Value.int .u8 0).cells (grownCap X (l.length + 4) old 5 - (l.length + 4))) 5)).ownsRow B 5 1
        (.slice (some ⟨X.heap.size, 0, none⟩) (l.length + 4) (grownCap X (l.length + 4) old 5)) (l.length + 4) (u8s (l ++ [0, 0, 0, 0])) ∧
      X.grownBy (X.drew.alloc (.cells ((u8s l).toArray ++ Builtin.zeroCells (Value.int .u8 0).cells 4 ++ Builtin.zeroCells (Value.int .u8 0).cells (grownCap X (l.length + 4) old 5 - (l.length + 4))) 5)) row := by
    intro old row ho
    have hge := grownCap_ge X (l.length + 4) old 5
    have hcm : grownCap X (l.length + 4) old 5 ≤ maxLen := grownCap_le_maxLen X (l.length + 4) old 5 (by unfold maxLen; omega)
    refine ⟨⟨by rw [u8s_len, hlen4]; omega, .inr ⟨X.heap.size, _, _, rfl, hB, heap_alloc_new X.drew _, hge, hcm, ?_, ?_⟩⟩, ⟨rfl, rfl, rfl, by simp, fun k hk _ => Below.heap_alloc X.drew _ k hk⟩⟩
    · simp only [Array.size_append, List.size_toArray, size_zeroCells, u8s_len, show (Value.int .u8 0).cells.size = 1 from rfl]
      omega
    · rw [zero4, u8s_app]
      simp only [Array.toList_append]
      rw [List.take_left']
      · rfl
      · simp [u8s_len]
  rcases h.2 with ⟨rfl, h0⟩ | ⟨g, cap, cur, rfl, hbg, hg, hnc, hcm, hcs, htake⟩
  · obtain rfl : l = [] := List.eq_nil_of_length_eq_zero h0
    have hr := Lib.run_append_nil_zeros (P := Try.prog) X 22 3 22 5 i0 (.int .u8 0) .i64 .i64 Try.underlying22 Try.underlying3 hi0 hz0 4 (by omega) hsz (by omega) (by rw [hz2]; omega)
    have hgr := grown 0 (Value.ownBlock (.slice none 0 0)) (by simp)
    refine ⟨⟨some ⟨X.heap.size, 0, none⟩, 4, grownCap X 4 0 5⟩, _, hr, ?_, ?_, .inr rfl⟩
    · have := hgr.1
      simp only [List.length_nil, Nat.zero_add, u8s, List.map_nil, Array.empty_append] at this
      unfold Ow
      exact this
    · have := hgr.2
      simpa [u8s] using this
  · by_cases hroom : l.length + 4 ≤ cap
    · have hfit : l.length * i0.size + (Builtin.zeroCells (Value.int .u8 0).cells 4).toList.length ≤ cur.size := by rw [zero4, hz1, hcs]; simp; omega
      have hr := run_append_room_zeros (P := Try.prog) X 22 3 22 5 i0 (.int .u8 0) .i64 .i64 Try.underlying22 Try.underlying3 hi0 hz0 g l.length cap cur hg 4 (by omega) hsz (by rw [hz2]; omega) (by omega) (by rw [zero4]; intro u hu; simp at hu; subst hu; rfl) hroom hfit
      refine ⟨⟨_, _, _⟩, _, hr, ?_, ⟨rfl, rfl, rfl, by simp, fun k _ hk => setRow_other X g k _ (fun e => hk (by simp [Value.ownBlock, e]))⟩, .inl rfl⟩
      unfold Ow
      refine ⟨by rw [u8s_len]; omega, .inr ⟨g, cap, _, by rw [hlen4], hbg, setRow_heap X g cur _ 5 _ hg, by omega, hcm, ?_, ?_⟩⟩
      · simp only [List.size_toArray, List.length_append, List.length_take, List.length_drop, Array.length_toList, hz1, zero4]
        simp; omega
      · rw [hz1, htake, u8s_app, zero4]
        have e : (l ++ [0, 0, 0, 0]).length * 1 = (u8s l ++ [Value.int .u8 0, .int .u8 0, .int .u8 0, .int .u8 0]).length := by simp [u8s_len]
        rw [e]
        exact List.take_left
    · have holds : ∀ j u, (u8s l)[j]? = some u → X.cell? ((⟨g, 0, none⟩ : Addr).add j) = some u := World.ownsRow.cells h (g := g) rfl
      have hfirst : (Builtin.firstCells i0.size l.length (.slice (some ⟨g, 0, none⟩) l.length cap)).run Try.prog X.drew = .ok (u8s l).toArray X.drew := run_firstCells_some X.drew i0.size l.length ⟨g, 0, none⟩ l.length cap (u8s l) (by rw [u8s_len, hz1]; omega) (by simpa using holds)
      have hr := Lib.run_append_grow_zeros (P := Try.prog) X 22 3 22 5 i0 (.int .u8 0) .i64 .i64 Try.underlying22 Try.underlying3 hi0 hz0 (some ⟨g, 0, none⟩) l.length cap (u8s l) hfirst 4 (by omega) hsz (by omega) (by omega) (by rw [hz2]; omega) (growslice_fits (by omega) (by rw [hz2]; omega))
      have hgr := grown cap (Value.ownBlock (.slice (some ⟨g, 0, none⟩) l.length cap)) (by omega)
      refine ⟨⟨_, _, _⟩, _, hr, ?_, hgr.2, .inr rfl⟩
      unfold Ow
      rw [hlen4]
      exact hgr.1
end Go.Proofs.Ytepgifapepaheaa
