/-
  Layer 13: the writer, how it lies; what its small functions write.
-/
import Derived.Test.YtcppgpcgbggdcaaDoorYrg
import Derived.Lib.AppendZerosOnto
import Derived.Maps.AppendAt
namespace Go.Proofs.YtcppgpcgbggdcaaDoor
set_option linter.unusedVariables false
set_option linter.unusedSimpArgs false
open Go.ChangeShapes Go.WideShapes Go.ChangeAt Go.RowKit

/-- A writer in block p, and the bytes that it has written. -/
structure Wr (X : World) (p B : Nat) (l : List Int) : Prop where
  lies : ∃ a n c, X.heap[p]? = some (.cells #[.slice a n c] 75 (0, 0)) ∧ Ow X B (.slice a n c) l
  lo : p < B
  hi : B ≤ X.heap.size
  few : l.length ≤ 1000000000
def PostY (w : World) (p B : Nat) (l : List Int) (e : Ending) (w' : World) : Prop := e = .returned (.tuple #[]) ∧ Wr w' p B l ∧ Tq w w' (fun k => k = p ∨ B ≤ k)
theorem Ow.set {X : World} {B p j : Nat} {v u : Value} {l : List Int} (h : Ow X B v l) (hp : p < B) : Ow (X.setCell ⟨p, j, none⟩ u) B v l := own_set h fun x hx => by have := own_lo h x hx; omega
/-- The row's new value is put into the writer's cell. -/
theorem Wr.put {w X : World} {p B : Nat} {l : List Int} {a : Option Addr} {n c : Nat} {cs : Array Value} (hX : X.heap[p]? = some (.cells #[.slice a n c] 75 (0, 0))) {v : Value} {a' : Option Addr} {n' c' : Nat} (hv : v = .slice a' n' c') (ho : Ow X B v l) (hb : Tq w X (fun k => k = p ∨ B ≤ k)) (lo : p < B) (hi : B ≤ w.heap.size) (few : l.length ≤ 1000000000) : Wr (X.setCell ⟨p, 0, none⟩ v) p B l ∧ Tq w (X.setCell ⟨p, 0, none⟩ v) (fun k => k = p ∨ B ≤ k) := by
  subst hv
  exact ⟨⟨⟨a', n', c', Go.Joins.block_setCell hX _, ho.set lo⟩, lo, by have := hb.size; simp; omega, few⟩, hb.trans (Tq.set (.inl rfl))⟩
theorem tq_of_below {w X : World} {B p : Nat} (h : Below B w X) : Tq w X (fun k => k = p ∨ B ≤ k) := ⟨h.os, h.tape, h.output, h.size, fun k hk hn => h.block k (by omega)⟩
/-- A byte put behind a row of bytes. -/
theorem app_u8 {X : World} {B : Nat} {v : Value} {l : List Int} (x : Int) (h : Ow X B v l) (hB : B ≤ X.heap.size) (hn : l.length ≤ 1000000000) :
    ∃ (s : Sl) (Y : World), (appN #[30, 30] 30 #[v, .slice (some ⟨X.heap.size, 0, none⟩) 1 1]).run Tryd.prog (X.alloc (.cells #[.int .u8 x] 5)) = .ok (.slice s.a s.n s.c) Y ∧ Ow Y B (.slice s.a s.n s.c) (l ++ [x]) ∧ (X.alloc (.cells #[.int .u8 x] 5)).grownBy Y v.ownBlock := by
  obtain ⟨i0, hi0, hz0, hz1, hz2⟩ := info_parts info5
  have hbl : (X.alloc (.cells #[.int .u8 x] 5)).ownsRow B 5 1 v l.length (u8s l) := World.ownsRow.alloc h _
  obtain ⟨v', Y, h1, h2, h3, _⟩ := run_append_own (P := Tryd.prog) (w := X.alloc (.cells #[.int .u8 x] 5)) B 30 30 5 i0 _ 1 1 Tryd.underlying30 hi0 hz0 hz1 hz2 rfl (by decide) v l.length (u8s l) hbl ⟨X.heap.size, 0, none⟩ 1 1 [.int .u8 x] rfl (cell_one _ _ _) (by intro u hu; simp at hu; subst hu; rfl) (by unfold maxLen; omega) (by omega) (by simp; omega)
  obtain ⟨va, vn, vc, rfl⟩ := own_slice h2
  exact ⟨⟨va, vn, vc⟩, Y, h1, by unfold Ow; rw [List.length_append, u8s_app]; exact h2, h3⟩
theorem Ow.setAt {w : World} {B g n c : Nat} {l : List Int} (h : Ow w B (.slice (some ⟨g, 0, none⟩) n c) l) (i : Nat) (x : Int) : Ow (w.setCell ⟨g, i, none⟩ (.int .u8 x)) B (.slice (some ⟨g, 0, none⟩) n c) (l.set i x) := by
  unfold Ow at *
  refine ⟨by simp [u8s], ?_⟩
  rcases h.2 with ⟨hv, _⟩ | ⟨g', cap, cur, hv, hb, hg, h1, h2, h3, h4⟩
  · cases hv
  · injection hv with e1 e2 e3
    injection e1 with e1
    injection e1 with e1 _ _
    subst e1 e3
    refine .inr ⟨g, c, cur.setIfInBounds i (.int .u8 x), by rw [List.length_set, ← e2], hb, Go.Joins.block_setCell hg _, by simpa using h1, h2, by simpa using h3, ?_⟩
    have hm : u8s (l.set i x) = (u8s l).set i (.int .u8 x) := by unfold u8s; rw [List.map_set]
    rw [hm, ← h4, Array.toList_setIfInBounds, List.length_set, List.take_set]
/-- A word's bytes, the first k of them, noughts behind. -/
def part4 (v : Int) (k : Nat) : List Int := (List.range k).map (byteOf v) ++ List.replicate (4 - k) 0
def wdL (v : Int) : List Int := [byteOf v 0, byteOf v 1, byteOf v 2, byteOf v 3]
theorem part4_all (v : Int) : part4 v 4 = wdL v := rfl
theorem part4_len (v : Int) (k : Nat) (h : k ≤ 4) : (part4 v k).length = 4 := by simp [part4]; omega
theorem part4_step (v : Int) (k : Nat) (h : k < 4) (l : List Int) : (l ++ part4 v k).set (l.length + k) (byteOf v k) = l ++ part4 v (k + 1) := by
  rw [List.set_append_right _ _ (by omega), Nat.add_sub_cancel_left]
  congr 1
  have : k = 0 ∨ k = 1 ∨ k = 2 ∨ k = 3 := by omega
  rcases this with rfl | rfl | rfl | rfl <;> rfl
theorem ow_cell {w : World} {B g n c : Nat} {l : List Int} (h : Ow w B (.slice (some ⟨g, 0, none⟩) n c) l) (i : Nat) (hi : i < l.length) : w.cell? ⟨g, i, none⟩ = some (.int .u8 (l.getD i 0)) ∧ w.frozen? ⟨g, i, none⟩ = false := by
  constructor
  · have hc := World.ownsRow.cells h (g := g) rfl i (.int .u8 (l.getD i 0)) (by unfold u8s; rw [List.getElem?_map, List.getElem?_eq_getElem hi, List.getD_eq_getElem?_getD, List.getElem?_eq_getElem hi]; rfl)
    rwa [show (⟨g, 0, none⟩ : Addr).add i = ⟨g, i, none⟩ by (simp [Addr.add]; omega)] at hc
  · unfold Ow at h
    rcases h.2 with ⟨hv, _⟩ | ⟨g', cap, cur, hv, hb, hg, h1, h2, h3, h4⟩
    · cases hv
    · injection hv with e1 e2 e3
      injection e1 with e1
      injection e1 with e1 _ _
      subst e1
      simp [World.frozen?, hg]
theorem ow_at {w : World} {B : Nat} {v : Value} {l : List Int} (h : Ow w B v l) (h0 : l ≠ []) : ∃ g c, v = .slice (some ⟨g, 0, none⟩) l.length c ∧ B ≤ g ∧ g < w.heap.size := by
  unfold Ow at h
  rcases h.2 with ⟨hv, hn⟩ | ⟨g', cap, cur, hv, hb, hg, h1, h2, h3, h4⟩
  · exact absurd (List.eq_nil_of_length_eq_zero hn) h0
  · exact ⟨g', cap, hv, hb, (Array.getElem?_eq_some_iff.1 hg).1⟩
set_option maxHeartbeats 2000000 in
/-- Put over the last four of a row of the call's own. -/
theorem put_own (B g c : Nat) (l : List Int) (v : Int) (w : World) (h : Ow w B (.slice (some ⟨g, 0, none⟩) (l.length + 4) c) (l ++ part4 v 0)) (hl : l.length ≤ 1000000000) :
    Calls Tryd.prog 97 #[.slice (some ⟨g, 0, none⟩) ((l.length + 4 : Nat)) c, .int .i64 (l.length : Int), .int .u32 v] w fun e w' => e = .returned (.bool true) ∧ Ow w' B (.slice (some ⟨g, 0, none⟩) (l.length + 4) c) (l ++ wdL v) ∧ w.grownBy w' (some g) := by
  have hf : fits (l.length + 4) (l.length : Int) = true := by unfold fits; exact decide_eq_true (by omega)
  have HW : Hid (∀ X, Calls Tryd.prog 105 #[.slice (some ⟨g, 0, none⟩) ((l.length + 4 : Nat)) c, .int .i64 (l.length : Int)] X fun e w' => e = .returned (.bool true) ∧ w' = X) := fun X => by
    have := holdsWord_any (some ⟨g, 0, none⟩) (l.length + 4) c l.length X (by unfold maxLen; omega)
    rwa [hf] at this
  have HO : Hid (Ow w B (.slice (some ⟨g, 0, none⟩) (l.length + 4) c) (l ++ part4 v 0)) := h
  clear h hf
  obtain ⟨p, hp⟩ : ∃ p, p = l.length := ⟨_, rfl⟩
  rw [← hp] at HW HO hl ⊢
  have HP : Hid (p = l.length) := hp
  clear hp
  go_enter Tryd.func97, Tryd.ntmps97
  go_wp2_with (go_at_call 105; refine (HW.out _).mono ?_; rintro e w1 ⟨rfl, hw⟩; rw [hw]; clear hw)
  go_loopw [12] (fun i wr => ∃ k : Nat, k ≤ 4 ∧ i = .int .i64 k ∧ Hid (Ow wr B (.slice (some ⟨g, 0, none⟩) (p + 4) c) (l ++ part4 v k) ∧ w.grownBy wr (some g))) (fun i _ => 4 - (intOf i).toNat)
  case atStart => exact ⟨0, by omega, rfl, HO.out, ⟨rfl, rfl, rfl, Nat.le_refl _, fun _ _ _ => rfl⟩⟩
  case round =>
    obtain ⟨k, hk, rfl, hr⟩ := hrel
    by_cases hlt : k < 4
    · obtain ⟨c1, c2⟩ := ow_cell hr.out.1 (p + k) (by rw [List.length_append, part4_len v k (by omega)]; have := HP.out; omega)
      have hn : Hid (Ow (wr.setCell ⟨g, p + k, none⟩ (.int .u8 (byteOf v k))) B (.slice (some ⟨g, 0, none⟩) (p + 4) c) (l ++ part4 v (k + 1)) ∧ w.grownBy (wr.setCell ⟨g, p + k, none⟩ (.int .u8 (byteOf v k))) (some g)) := by
        refine ⟨?_, gb_set hr.out.2⟩
        have := hr.out.1.setAt (p + k) (byteOf v k)
        rw [HP.out] at this ⊢
        rw [part4_step v k hlt] at this
        exact this
      generalize (l ++ part4 v k).getD (p + k) 0 = y at c1
      clear hr
      go_wp2
      go_roundw
      case rel => exact ⟨k + 1, by omega, by go_num, hn⟩
      case measure => simp [intOf]; omega
    · obtain rfl : k = 4 := by omega
      go_wp2
      go_ret
      exact ⟨rfl, hr.out.1, hr.out.2⟩
/-- Four noughts put behind a row of bytes. -/
theorem run_append_room_zeros {P : Program} (w : World) (t tn ty e : TypeId) (i : TypeInfo) (z : Value) (kq kn : IntKind) (ht : P.underlying t = some (.slice e)) (htn : P.underlying tn = some (.int kn)) (hi : P.info? e = some i) (hz : i.zero = some z)
    (g sLen sCap : Nat) (cur : Array Value) (hg : w.heap[g]? = some (.cells cur e (0, 0))) (k : Nat) (h0 : 0 < k) (hs : 0 < i.size) (h48 : k * i.bytes ≤ 281474976710656) (hk63 : k ≤ 9223372036854775807) (h1 : ∀ u ∈ (Builtin.zeroCells z.cells k).toList, u.oneCell' = true)
    (hroom : sLen + k ≤ sCap) (hfit : sLen * i.size + (Builtin.zeroCells z.cells k).toList.length ≤ cur.size) :
    (Builtin.append_ #[t, tn] ty #[.slice (some ⟨g, 0, none⟩) sLen sCap, .int kq k]).run P w =
      .ok (.slice (some ⟨g, 0, none⟩) (sLen + k) sCap) (w.setRow g (cur.toList.take (sLen * i.size) ++ (Builtin.zeroCells z.cells k).toList ++ cur.toList.drop (sLen * i.size + (Builtin.zeroCells z.cells k).toList.length)).toArray) := by
  have hst := run_storeCells_at P g (sLen * i.size) e (Builtin.zeroCells z.cells k).toList 0 cur w hg (by simpa using hfit) h1
  simp only [Nat.add_zero] at hst
  have hk : k ≠ 0 := by omega
  have hw : IntKind.i64.wrap (k : Int) = k := by rw [IntKind.wrap_i64]; omega
  have h48i : ¬ (281474976710656 < (k : Int) * (i.bytes : Int)) := by
    rw [← Int.natCast_mul]
    omega
  have hneg : ¬ ((k : Int) < 0) := by omega
  have hns : ¬ (k * i.size = 0) := Nat.mul_ne_zero hk (by omega)
  simp [Builtin.append_, run_underlying ht, run_underlying htn, sizeOf, typeInfo, zeroValue, hi, hz, asInt, asIntOf, hw, hneg, hns, h48i, hroom, Addr.add_lit, hst]
theorem zero4 : (Builtin.zeroCells (Value.int .u8 0).cells 4) = #[.int .u8 0, .int .u8 0, .int .u8 0, .int .u8 0] := by kernel_rfl
theorem app_zeros {X : World} {B : Nat} {v : Value} {l : List Int} (h : Ow X B v l) (hB : B ≤ X.heap.size) (hn : l.length ≤ 1000000000) :
    ∃ (s : Sl) (Y : World), (appN #[30, 3] 30 #[v, .int .i64 4]).run Tryd.prog X = .ok (.slice s.a s.n s.c) Y ∧ Ow Y B (.slice s.a s.n s.c) (l ++ [0, 0, 0, 0]) ∧ X.grownBy Y v.ownBlock ∧ ((Value.slice s.a s.n s.c).ownBlock = v.ownBlock ∨ (Value.slice s.a s.n s.c).ownBlock = some X.heap.size) := by
  obtain ⟨i0, hi0, hz0, hz1, hz2⟩ := info_parts info5
  have hsz : 0 < i0.size := by rw [hz1]; omega
  unfold Ow at h
  have hlen4 : (l ++ [0, 0, 0, 0]).length = l.length + 4 := by simp
  have grown : ∀ (old : Nat) (row : Option Nat), old < l.length + 4 →
      (X.drew.alloc (.cells ((u8s l).toArray ++ Builtin.zeroCells (Value.int .u8 0).cells 4 ++ Builtin.zeroCells (Value.int .u8 0).cells (grownCap X (l.length + 4) old 5 - (l.length + 4))) 5)).ownsRow B 5 1
        (.slice (some ⟨X.heap.size, 0, none⟩) (l.length + 4) (grownCap X (l.length + 4) old 5)) (l.length + 4) (u8s (l ++ [0, 0, 0, 0])) ∧
      X.grownBy (X.drew.alloc (.cells ((u8s l).toArray ++ Builtin.zeroCells (Value.int .u8 0).cells 4 ++ Builtin.zeroCells (Value.int .u8 0).cells (grownCap X (l.length + 4) old 5 - (l.length + 4))) 5)) row := by
    intro old row ho
    have hge := grownCap_ge X (l.length + 4) old 5
    have hcm : grownCap X (l.length + 4) old 5 ≤ maxLen := grownCap_le_maxLen X (l.length + 4) old 5 (by unfold maxLen; omega)
    refine ⟨⟨by rw [u8s_len, hlen4]; omega, .inr ⟨X.heap.size, _, _, rfl, hB, heap_alloc_new X.drew _, hge, hcm, ?_, ?_⟩⟩, ⟨rfl, rfl, rfl, by simp, fun k hk _ => Below.heap_alloc X.drew _ k hk⟩⟩
    · simp only [Array.size_append, List.size_toArray, size_zeroCells, u8s_len, show (Value.int .u8 0).cells.size = 1 from rfl]
      omega
    · rw [zero4, u8s_app]
      simp only [Array.toList_append]
      rw [List.take_left']
      · rfl
      · simp [u8s_len]
  rcases h.2 with ⟨rfl, h0⟩ | ⟨g, cap, cur, rfl, hbg, hg, hnc, hcm, hcs, htake⟩
  · obtain rfl : l = [] := List.eq_nil_of_length_eq_zero h0
    have hr := Lib.run_append_nil_zeros (P := Tryd.prog) X 30 3 30 5 i0 (.int .u8 0) .i64 .i64 Tryd.underlying30 Tryd.underlying3 hi0 hz0 4 (by omega) hsz (by omega) (by rw [hz2]; omega)
    have hgr := grown 0 (Value.ownBlock (.slice none 0 0)) (by simp)
    refine ⟨⟨some ⟨X.heap.size, 0, none⟩, 4, grownCap X 4 0 5⟩, _, hr, ?_, ?_, .inr rfl⟩
    · have := hgr.1
      simp only [List.length_nil, Nat.zero_add, u8s, List.map_nil, Array.empty_append] at this
      unfold Ow
      exact this
    · have := hgr.2
      simpa [u8s] using this
  · by_cases hroom : l.length + 4 ≤ cap
    · have hfit : l.length * i0.size + (Builtin.zeroCells (Value.int .u8 0).cells 4).toList.length ≤ cur.size := by rw [zero4, hz1, hcs]; simp; omega
      have hr := run_append_room_zeros (P := Tryd.prog) X 30 3 30 5 i0 (.int .u8 0) .i64 .i64 Tryd.underlying30 Tryd.underlying3 hi0 hz0 g l.length cap cur hg 4 (by omega) hsz (by rw [hz2]; omega) (by omega) (by rw [zero4]; intro u hu; simp at hu; subst hu; rfl) hroom hfit
      refine ⟨⟨_, _, _⟩, _, hr, ?_, ⟨rfl, rfl, rfl, by simp, fun k _ hk => setRow_other X g k _ (fun e => hk (by simp [Value.ownBlock, e]))⟩, .inl rfl⟩
      unfold Ow
      refine ⟨by rw [u8s_len]; omega, .inr ⟨g, cap, _, by rw [hlen4], hbg, setRow_heap X g cur _ 5 _ hg, by omega, hcm, ?_, ?_⟩⟩
      · simp only [List.size_toArray, List.length_append, List.length_take, List.length_drop, Array.length_toList, hz1, zero4]
        simp; omega
      · rw [hz1, htake, u8s_app, zero4]
        have e : (l ++ [0, 0, 0, 0]).length * 1 = (u8s l ++ [Value.int .u8 0, .int .u8 0, .int .u8 0, .int .u8 0]).length := by simp [u8s_len]
        rw [e]
        exact List.take_left
    · have holds : ∀ j u, (u8s l)[j]? = some u → X.cell? ((⟨g, 0, none⟩ : Addr).add j) = some u := World.ownsRow.cells h (g := g) rfl
      have hfirst : (Builtin.firstCells i0.size l.length (.slice (some ⟨g, 0, none⟩) l.length cap)).run Tryd.prog X.drew = .ok (u8s l).toArray X.drew := run_firstCells_some X.drew i0.size l.length ⟨g, 0, none⟩ l.length cap (u8s l) (by rw [u8s_len, hz1]; omega) (by simpa using holds)
      have hr := Lib.run_append_grow_zeros (P := Tryd.prog) X 30 3 30 5 i0 (.int .u8 0) .i64 .i64 Tryd.underlying30 Tryd.underlying3 hi0 hz0 (some ⟨g, 0, none⟩) l.length cap (u8s l) hfirst 4 (by omega) hsz (by omega) (by omega) (by rw [hz2]; omega) (growslice_fits (by omega) (by rw [hz2]; omega))
      have hgr := grown cap (Value.ownBlock (.slice (some ⟨g, 0, none⟩) l.length cap)) (by omega)
      refine ⟨⟨_, _, _⟩, _, hr, ?_, hgr.2, .inr rfl⟩
      unfold Ow
      rw [hlen4]
      exact hgr.1
/-- A row of the call's own became another: all blocks but its own are as they were; the new row lies in its block, or in a new one. -/
def Gr (w : World) (v : Value) (w' : World) (v' : Value) : Prop := w.grownBy w' v.ownBlock ∧ ∀ k, v'.ownBlock = some k → v.ownBlock = some k ∨ w.heap.size ≤ k
theorem Gr.refl (w : World) (v : Value) : Gr w v w v := ⟨⟨rfl, rfl, rfl, Nat.le_refl _, fun _ _ _ => rfl⟩, fun _ h => .inl h⟩
theorem Gr.trans {w w1 w2 : World} {v v1 v2 : Value} (h : Gr w v w1 v1) (g : Gr w1 v1 w2 v2) : Gr w v w2 v2 := by
  have hs := h.1.size
  refine ⟨⟨g.1.os.trans h.1.os, g.1.tape.trans h.1.tape, g.1.output.trans h.1.output, Nat.le_trans hs g.1.size, fun k hk hne => (g.1.block k (by omega) fun e => ?_).trans (h.1.block k hk hne)⟩, fun k hk => ?_⟩
  · rcases h.2 k e.symm with e1 | e1
    · exact hne e1.symm
    · omega
  · rcases g.2 k hk with e1 | e1
    · exact h.2 k e1
    · exact .inr (by omega)
theorem Gr.alloc (w : World) (v : Value) (x : Obj) : Gr w v (w.alloc x) v := ⟨World.grownBy_alloc w x _, fun _ h => .inl h⟩
theorem Gr.of {w w' : World} {v v' : Value} (hg : w.grownBy w' v.ownBlock) (hat : v'.ownBlock = v.ownBlock ∨ v'.ownBlock = some w.heap.size) : Gr w v w' v' := by
  refine ⟨hg, fun k hk => ?_⟩
  rcases hat with e | e
  · exact .inl (by rw [← e]; exact hk)
  · rw [e] at hk; injection hk with hk; exact .inr (by omega)
theorem Gr.below {w w' : World} {v v' : Value} {B : Nat} (h : Gr w v w' v') (hv : ∀ k, v.ownBlock = some k → B ≤ k) (hB : B ≤ w.heap.size) : Below B w w' := ⟨h.1.os, h.1.tape, h.1.output, h.1.size, fun k hk => h.1.block k (by omega) fun e => by have := hv k e.symm; omega⟩
/-- A block that is not the writer's row's. -/
def Wf (X : World) (p k : Nat) : Prop := ∀ a n c, X.heap[p]? = some (.cells #[.slice a n c] 75 (0, 0)) → (Value.slice a n c).ownBlock ≠ some k
/-- What the writer leaves. -/
structure Wk (w w' : World) (p : Nat) : Prop where
  os : w'.os = w.os
  tape : w'.tape = w.tape
  output : w'.output = w.output
  size : w.heap.size ≤ w'.heap.size
  blk : ∀ k, k < w.heap.size → k ≠ p → Wf w p k → w'.heap[k]? = w.heap[k]? ∧ Wf w' p k
theorem Wk.trans {w w1 w2 : World} {p : Nat} (h : Wk w w1 p) (g : Wk w1 w2 p) : Wk w w2 p :=
  ⟨g.os.trans h.os, g.tape.trans h.tape, g.output.trans h.output, Nat.le_trans h.size g.size, fun k hk hp hf => by
    obtain ⟨e1, f1⟩ := h.blk k hk hp hf
    obtain ⟨e2, f2⟩ := g.blk k (Nat.lt_of_lt_of_le hk h.size) hp f1
    exact ⟨e2.trans e1, f2⟩⟩
theorem Wk.refl (w : World) (p : Nat) : Wk w w p := ⟨rfl, rfl, rfl, Nat.le_refl _, fun _ _ _ h => ⟨rfl, h⟩⟩
theorem Wk.below {w w' : World} {p : Nat} (hp : p < w.heap.size) (h : Below w.heap.size w w') : Wk w w' p := ⟨h.os, h.tape, h.output, h.size, fun k hk _ hf => ⟨h.block k hk, fun a n c e => hf a n c ((h.block p hp).symm.trans e)⟩⟩
theorem Wk.tq {w w' : World} {p B : Nat} {l : List Int} (h : Wk w w' p) (hw : Wr w p B l) : Tq w w' (fun k => k = p ∨ B ≤ k) := by
  refine ⟨h.os, h.tape, h.output, h.size, fun k hk hn => (h.blk k hk (fun e => hn (.inl e)) ?_).1⟩
  obtain ⟨a, n, c, hb, ho⟩ := hw.lies
  intro a' n' c' e
  rw [hb] at e
  injection e with e; injection e with e _; injection e with e; injection e with e _
  rw [← e]
  intro e2
  exact hn (.inr (own_lo ho k e2))
def PostZ (w : World) (p B : Nat) (l : List Int) (e : Ending) (w' : World) : Prop := e = .returned (.tuple #[]) ∧ Wr w' p B l ∧ Wk w w' p
/-- The row's new value is put into the writer's cell. -/
theorem Wr.putz {w X : World} {p B : Nat} {l : List Int} {a : Option Addr} {n c : Nat} {v' : Value} (hb : w.heap[p]? = some (.cells #[.slice a n c] 75 (0, 0))) (hv : ∀ k, (Value.slice a n c).ownBlock = some k → B ≤ k) (ho : Ow X B v' l) (hg : Gr w (.slice a n c) X v') (lo : p < B) (hi : B ≤ w.heap.size) (few : l.length ≤ 1000000000) :
    (∃ a' n' c', v' = .slice a' n' c') ∧ X.cell? ⟨p, 0, none⟩ = some (.slice a n c) ∧ X.frozen? ⟨p, 0, none⟩ = false ∧ Hid (Wr (X.setCell ⟨p, 0, none⟩ v') p B l ∧ Wk w (X.setCell ⟨p, 0, none⟩ v') p) := by
  have hs := hg.1.size
  have hX : X.heap[p]? = some (.cells #[.slice a n c] 75 (0, 0)) := (hg.1.block p (by omega) fun e => by have := hv p e.symm; omega).trans hb
  obtain ⟨a', n', c', rfl⟩ := own_slice ho
  have hY := Go.Joins.block_setCell (i := 0) hX (.slice a' n' c')
  refine ⟨⟨a', n', c', rfl⟩, blk_cell hX 0, blk_fz hX 0, ⟨⟨a', n', c', hY, ho.set lo⟩, lo, by simp; omega, few⟩, ⟨hg.1.os, hg.1.tape, hg.1.output, by simpa using hs, fun k hk hp hf => ⟨(Below.heap_setCell _ _ _ _ hp).trans (hg.1.block k hk fun e => hf _ _ _ hb e.symm), fun a2 n2 c2 e e2 => ?_⟩⟩⟩
  have hY2 : (X.setCell ⟨p, 0, none⟩ (.slice a' n' c')).heap[p]? = some (.cells #[.slice a' n' c'] 75 (0, 0)) := hY
  rw [hY2] at e
  injection e with e; injection e with e _; injection e with e; injection e with e _
  rw [← e] at e2
  rcases hg.2 k e2 with e3 | e3
  · exact hf _ _ _ hb e3
  · omega
theorem app_u8z {X : World} {B : Nat} {v : Value} {l : List Int} (x : Int) (h : Ow X B v l) (hB : B ≤ X.heap.size) (hn : l.length ≤ 1000000000) :
    ∃ (v' : Value) (Y : World), (appN #[30, 30] 30 #[v, .slice (some ⟨X.heap.size, 0, none⟩) 1 1]).run Tryd.prog (X.alloc (.cells #[.int .u8 x] 5)) = .ok v' Y ∧ Ow Y B v' (l ++ [x]) ∧ Gr X v Y v' := by
  obtain ⟨i0, hi0, hz0, hz1, hz2⟩ := info_parts info5
  have hbl : (X.alloc (.cells #[.int .u8 x] 5)).ownsRow B 5 1 v l.length (u8s l) := World.ownsRow.alloc h _
  obtain ⟨v', Y, h1, h2, h3, _, h5⟩ := run_append_own_at (P := Tryd.prog) (w := X.alloc (.cells #[.int .u8 x] 5)) B 30 30 5 i0 _ 1 1 Tryd.underlying30 hi0 hz0 hz1 hz2 rfl (by decide) v l.length (u8s l) hbl ⟨X.heap.size, 0, none⟩ 1 1 [.int .u8 x] rfl (cell_one _ _ _) (by intro u hu; simp at hu; subst hu; rfl) (by unfold maxLen; omega) (by omega) (by simp; omega)
  exact ⟨v', Y, h1, by unfold Ow; rw [List.length_append, u8s_app]; exact h2, (Gr.alloc _ _ _).trans (Gr.of h3 h5)⟩
attribute [local go_sem ↓] appN_seal
set_option maxHeartbeats 2000000 in
set_option maxRecDepth 20000 in
theorem word_z (w : World) (p B : Nat) (l : List Int) (h : Wr w p B l) (x : Int) (hl : l.length ≤ 900000000) : Calls Tryd.prog 82 #[.pointer (some ⟨p, 0, none⟩), .int .u32 x] w (PostZ w p B (l ++ wdL x)) := by
  obtain ⟨a, k, c, hb, ho⟩ := h.lies
  have lo := h.lo
  have hi := h.hi
  have hkl : k = l.length := by
    unfold Ow at ho
    rcases ho.2 with ⟨hv, h0⟩ | ⟨g', cap, cur, hv, _⟩
    · injection hv with _ e _; rw [e, h0]
    · injection hv
  have c0 : w.cell? ⟨p, 0, none⟩ = some (.slice a k c) := blk_cell hb 0
  obtain ⟨s, Y, hrun, hoY, hgY, hat⟩ := app_zeros ho hi (by omega)
  obtain ⟨_, k0, z0, R⟩ := Wr.putz hb (own_lo ho) hoY (Gr.of hgY hat) lo hi (by rw [List.length_append]; simp; omega)
  obtain ⟨g, c2, hv, hg1, hg2⟩ := ow_at hoY (by simp)
  obtain ⟨sa, sn, sc⟩ := s
  simp only at hv hrun hoY R hat
  injection hv with e1 e2 e3
  subst e1 e2 e3
  rw [show (l ++ [(0 : Int), 0, 0, 0]).length = l.length + 4 by simp] at hrun hoY R
  have PO : Hid (Calls Tryd.prog 97 #[.slice (some ⟨g, 0, none⟩) ((l.length + 4 : Nat)) sc, .int .i64 (l.length : Int), .int .u32 x] (Y.setCell ⟨p, 0, none⟩ (.slice (some ⟨g, 0, none⟩) (l.length + 4) sc)) fun e w' => e = .returned (.bool true) ∧ PostZ w p B (l ++ wdL x) (.returned (.tuple #[])) w') := by
    have hne : p ≠ g := by omega
    obtain ⟨⟨qa, qn, qc, hq, _⟩, _, qh, _⟩ := R.out.1
    have hp2 := (Array.getElem?_eq_some_iff.1 hq).1
    have hq2 : (Y.setCell ⟨p, 0, none⟩ (.slice (some ⟨g, 0, none⟩) (l.length + 4) sc)).heap[p]? = some (.cells #[.slice (some ⟨g, 0, none⟩) (l.length + 4) sc] 75 (0, 0)) := by
      have hYp : Y.heap[p]? = some (.cells #[.slice a k c] 75 (0, 0)) := (hgY.block p (by omega) (fun e => by have := own_lo ho p e.symm; omega)).trans hb
      exact Go.Joins.block_setCell hYp _
    refine (put_own B g sc l x _ (Ow.set hoY lo) (by omega)).mono fun e w' hh => ?_
    have hwp : w'.heap[p]? = some (.cells #[.slice (some ⟨g, 0, none⟩) (l.length + 4) sc] 75 (0, 0)) := (hh.2.2.block p hp2 (fun e => hne (by injection e))).trans hq2
    refine ⟨hh.1, rfl, ⟨⟨some ⟨g, 0, none⟩, l.length + 4, sc, hwp, hh.2.1⟩, lo, ?_, by rw [List.length_append]; simp [wdL]; omega⟩, R.out.2.trans ⟨hh.2.2.os, hh.2.2.tape, hh.2.2.output, hh.2.2.size, fun k hk hkp hf => ⟨hh.2.2.block k hk (fun e => hf _ _ _ hq2 (by rw [e]; rfl)), fun a2 n2 c2 e e2 => ?_⟩⟩⟩
    · have := hh.2.2.size; omega
    · rw [hwp] at e
      injection e with e; injection e with e _; injection e with e; injection e with e _
      rw [← e] at e2
      exact hf _ _ _ hq2 e2
  clear h hb ho hoY hgY R hat
  subst hkl
  go_enter Tryd.func82, Tryd.ntmps82
  go_wp2_with (go_at_call 97; refine PO.out.mono ?_; rintro e w1 ⟨rfl, hr⟩)
  go_end0
  exact hr
/-- A row's bytes put behind another's. -/
theorem app_row {X : World} {B B2 : Nat} {v : Value} {l l2 : List Int} {g m c2 : Nat} (h : Ow X B v l) (h2 : Ow X B2 (.slice (some ⟨g, 0, none⟩) m c2) l2) (hB : B ≤ X.heap.size) (hn : l.length + l2.length ≤ 1000000000) (h0 : l2 ≠ []) :
    ∃ (v' : Value) (Y : World), (appN #[30, 30] 30 #[v, .slice (some ⟨g, 0, none⟩) m c2]).run Tryd.prog X = .ok v' Y ∧ Ow Y B v' (l ++ l2) ∧ Gr X v Y v' := by
  obtain ⟨i0, hi0, hz0, hz1, hz2⟩ := info_parts info5
  have hm : m = l2.length := by
    unfold Ow at h2
    rcases h2.2 with ⟨hv, _⟩ | ⟨g', cap, cur, hv, _⟩
    · cases hv
    · injection hv
  subst hm
  obtain ⟨v', Y, r1, r2, r3, _, r5⟩ := run_append_own_at (P := Tryd.prog) (w := X) B 30 30 5 i0 _ 1 1 Tryd.underlying30 hi0 hz0 hz1 hz2 rfl (by decide) v l.length (u8s l) h ⟨g, 0, none⟩ l2.length c2 (u8s l2) (by rw [u8s_len]; omega) (World.ownsRow.cells h2 (g := g) rfl) (u8s_one _) (by unfold maxLen; omega) (by omega) hB
  exact ⟨v', Y, r1, by unfold Ow; rw [List.length_append, u8s_app]; exact r2, Gr.of r3 r5⟩
theorem numL_ne (f : Nat) (n : Int) : numL f n ≠ [] := by
  cases f with
  | zero => unfold numL; simp
  | succ f => unfold numL; split <;> simp
set_option maxHeartbeats 4000000 in
set_option maxRecDepth 20000 in
theorem number_z (w : World) (p B : Nat) (l : List Int) (h : Wr w p B l) (n : Int) (n0 : 0 ≤ n) (n1 : n ≤ 4294967295) (hl : l.length ≤ 900000000) : Calls Tryd.prog 62 #[.pointer (some ⟨p, 0, none⟩), .int .i64 n] w (PostZ w p B (l ++ numL 4 n)) := by
  obtain ⟨a, k, c, hb, ho⟩ := h.lies
  have lo := h.lo
  have hi := h.hi
  have hlen := numL_len 4 n
  have c0 : w.cell? ⟨p, 0, none⟩ = some (.slice a k c) := blk_cell hb 0
  have e1 : IntKind.u32.wrap n = n := by rw [show IntKind.u32.wrap n = n % 4294967296 from wrap_u32 n]; omega
  have PC : Hid (∀ X, Below w.heap.size w X → Calls Tryd.prog 84 #[.slice none 0 0, .int .u32 n] X fun e w1 => ∃ g m c2, e = .returned (.slice (some ⟨g, 0, none⟩) m c2) ∧ w1.cell? ⟨p, 0, none⟩ = some (.slice a k c) ∧ ∃ va vn vc Y, (appN #[30, 30] 30 #[.slice a k c, .slice (some ⟨g, 0, none⟩) m c2]).run Tryd.prog w1 = .ok (.slice va vn vc) Y ∧ Y.cell? ⟨p, 0, none⟩ = some (.slice a k c) ∧ Y.frozen? ⟨p, 0, none⟩ = false ∧ Hid (Wr (Y.setCell ⟨p, 0, none⟩ (.slice va vn vc)) p B (l ++ numL 4 n) ∧ Wk w (Y.setCell ⟨p, 0, none⟩ (.slice va vn vc)) p)) := hid_of fun X hX => by
    refine (putUint_any none 0 0 (fun _ => 0) n X ⟨⟨by unfold maxLen; omega, .inl rfl⟩, fun _ => ⟨rfl, rfl⟩, by omega⟩ n0 n1).mono fun e w1 hh => ?_
    obtain ⟨v1, rfl, ho1, hb1⟩ := hh
    have hw1 : Below w.heap.size w w1 := hX.trans (hb1.mono hX.size)
    rw [show bl (fun _ => 0) 0 ++ numL 4 n = numL 4 n from rfl] at ho1
    obtain ⟨g, c2, rfl, hg1, hg2⟩ := ow_at ho1 (numL_ne 4 n)
    have hoX : Ow w1 B (.slice a k c) l := ⟨ho.1, ho.2.imp id fun ⟨g, cap, cur, e1, e2, e3, r⟩ => ⟨g, cap, cur, e1, e2, (hw1.block g (Array.getElem?_eq_some_iff.1 e3).1).trans e3, r⟩⟩
    obtain ⟨v', Y, r1, r2, r3⟩ := app_row hoX ho1 (by have := hw1.size; omega) (by omega) (numL_ne 4 n)
    have hgr : Gr w (.slice a k c) Y v' := Gr.trans ⟨⟨hw1.os, hw1.tape, hw1.output, hw1.size, fun k hk _ => hw1.block k hk⟩, fun _ h => .inl h⟩ r3
    obtain ⟨⟨va, vn, vc, rfl⟩, q1, q2, q3⟩ := Wr.putz hb (own_lo ho) r2 hgr lo hi (by simp; omega)
    exact ⟨g, _, c2, rfl, (hw1.cell (p := ⟨p, 0, none⟩) (by show p < w.heap.size; omega)).trans c0, va, vn, vc, Y, r1, q1, q2, q3⟩
  clear h hb ho hlen
  go_enter Tryd.func62, Tryd.ntmps62
  go_region_with (first
    | (go_at_call 84; refine (PC.out _ (by go_grown)).mono ?_; rintro e w1 ⟨g, m, c2, rfl, k1, va, vn, vc, Y, r1, k2, z2, R⟩))
  all_goals
    go_wp2_with fail
    go_end0
    exact ⟨rfl, R.out⟩
set_option maxHeartbeats 4000000 in
set_option maxRecDepth 20000 in
theorem text_z (w : World) (p B : Nat) (l : List Int) (h : Wr w p B l) (s : ByteArray) (hs : s.size ≤ 1000) (hl : l.length ≤ 900000000) : Calls Tryd.prog 57 #[.pointer (some ⟨p, 0, none⟩), .string s] w (PostZ w p B (l ++ textL s)) := by
  obtain ⟨a, k, c, hb, ho⟩ := h.lies
  have lo := h.lo
  have hi := h.hi
  have hlen : (textL s).length ≤ 1005 := by unfold textL; rw [List.length_append, sL_len]; have := numL_len 4 ((s.size : Int) % 4294967296); omega
  have hne : textL s ≠ [] := by unfold textL; intro e; exact numL_ne _ _ (List.append_eq_nil_iff.1 e).1
  have c0 : w.cell? ⟨p, 0, none⟩ = some (.slice a k c) := blk_cell hb 0
  have PC : Hid (∀ X, Below w.heap.size w X → Calls Tryd.prog 80 #[.slice none 0 0, .string s] X fun e w1 => ∃ g m c2, e = .returned (.slice (some ⟨g, 0, none⟩) m c2) ∧ w1.cell? ⟨p, 0, none⟩ = some (.slice a k c) ∧ ∃ va vn vc Y, (appN #[30, 30] 30 #[.slice a k c, .slice (some ⟨g, 0, none⟩) m c2]).run Tryd.prog w1 = .ok (.slice va vn vc) Y ∧ Y.cell? ⟨p, 0, none⟩ = some (.slice a k c) ∧ Y.frozen? ⟨p, 0, none⟩ = false ∧ Hid (Wr (Y.setCell ⟨p, 0, none⟩ (.slice va vn vc)) p B (l ++ textL s) ∧ Wk w (Y.setCell ⟨p, 0, none⟩ (.slice va vn vc)) p)) := hid_of fun X hX => by
    refine (putText_any none 0 0 (fun _ => 0) s X ⟨⟨by unfold maxLen; omega, .inl rfl⟩, fun _ => ⟨rfl, rfl⟩, by omega⟩ (by omega)).mono fun e w1 hh => ?_
    obtain ⟨v1, rfl, ho1, hb1⟩ := hh
    have hw1 : Below w.heap.size w w1 := hX.trans (hb1.mono hX.size)
    rw [show bl (fun _ => 0) 0 ++ textL s = textL s from rfl] at ho1
    obtain ⟨g, c2, rfl, hg1, hg2⟩ := ow_at ho1 hne
    have hoX : Ow w1 B (.slice a k c) l := ⟨ho.1, ho.2.imp id fun ⟨g, cap, cur, e1, e2, e3, r⟩ => ⟨g, cap, cur, e1, e2, (hw1.block g (Array.getElem?_eq_some_iff.1 e3).1).trans e3, r⟩⟩
    obtain ⟨v', Y, r1, r2, r3⟩ := app_row hoX ho1 (by have := hw1.size; omega) (by omega) hne
    have hgr : Gr w (.slice a k c) Y v' := Gr.trans ⟨⟨hw1.os, hw1.tape, hw1.output, hw1.size, fun k hk _ => hw1.block k hk⟩, fun _ h => .inl h⟩ r3
    obtain ⟨⟨va, vn, vc, rfl⟩, q1, q2, q3⟩ := Wr.putz hb (own_lo ho) r2 hgr lo hi (by simp; omega)
    exact ⟨g, _, c2, rfl, (hw1.cell (p := ⟨p, 0, none⟩) (by show p < w.heap.size; omega)).trans c0, va, vn, vc, Y, r1, q1, q2, q3⟩
  clear h hb ho hlen hne
  go_enter Tryd.func57, Tryd.ntmps57
  go_region_with (first
    | (go_at_call 80; refine (PC.out _ (by go_grown)).mono ?_; rintro e w1 ⟨g, m, c2, rfl, k1, va, vn, vc, Y, r1, k2, z2, R⟩))
  all_goals
    go_wp2_with fail
    go_end0
    exact ⟨rfl, R.out⟩
set_option maxHeartbeats 2000000 in
set_option maxRecDepth 20000 in
theorem octet_z (w : World) (p B : Nat) (l : List Int) (h : Wr w p B l) (x : Int) (x0 : 0 ≤ x) (x1 : x ≤ 255) (hl : l.length ≤ 900000000) : Calls Tryd.prog 61 #[.pointer (some ⟨p, 0, none⟩), .int .i64 x] w (PostZ w p B (l ++ [x])) := by
  obtain ⟨a, k, c, hb, ho⟩ := h.lies
  have lo := h.lo
  have hi := h.hi
  have c0 : w.cell? ⟨p, 0, none⟩ = some (.slice a k c) := blk_cell hb 0
  obtain ⟨v', Y, hrun, hoY, hgr⟩ := app_u8z x ho hi (by omega)
  obtain ⟨⟨a2, n2, c2, hv⟩, k0, z0, R⟩ := Wr.putz hb (own_lo ho) hoY hgr lo hi (by rw [List.length_append]; simp; omega)
  subst hv
  clear h hb ho hoY hgr
  go_enter Tryd.func61, Tryd.ntmps61
  go_wp2
  go_end0
  exact ⟨rfl, R.out⟩
end Go.Proofs.YtcppgpcgbggdcaaDoor
