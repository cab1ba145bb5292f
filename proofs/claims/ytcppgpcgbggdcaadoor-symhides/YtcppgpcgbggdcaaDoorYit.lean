/-
  Layer 13: the names of all that is shown, one behind the other: the iterator.
-/
import Derived.Test.YtcppgpcgbggdcaaDoorYea
import Derived.RangeFuncNested
import Derived.RangeFuncBound
import Derived.RangeFuncCalls
import Derived.RangeFuncLeaves
import Derived.RangeFuncWrites
import Derived.Shelf.Abstract
import Derived.Shelf.RegionOpen
import Derived.WalkKit
import Derived.OwnWalkIn
import Derived.TacticsInMore
import Derived.LoopNIn
import Derived.LoopIn
namespace Go.Proofs.YtcppgpcgbggdcaaDoor
set_option linter.unusedVariables false
set_option linter.unusedSimpArgs false
open Go.ChangeShapes Go.WideShapes Go.ChangeAt Go.RowKit Go.Shelf
attribute [local go_sem] Oper.semAt_some
attribute [local go_sem ↓] ldC_seal stC_seal ldV_seal stV_seal ldP_seal stP_seal ldS_seal stS_seal

/-- Symbols that are read. -/
structure SyR (X : World) (c : Sc) (o : Sy) (l : List (Pc × Sl)) : Prop where
  nm : c.nm = o.nm
  cs : RdV X 5 c.cs o.cs.length (flat cEnc o.cs)
  vs : RdV X 5 c.vs o.vs.length (flat vEnc o.vs)
  pl : l.map (·.1) = o.ps
  ps : RdV X 3 c.ps l.length (flat pEnc l)
  pp : ∀ p ∈ l, RdV X 5 p.2 p.1.ps.length (flat vEnc p.1.ps)
  sz : o.nm.size ≤ 140737488355328 ∧ (∀ x ∈ o.cs, x.nm.size ≤ 140737488355328) ∧ (∀ x ∈ o.vs, x.nm.size ≤ 140737488355328) ∧ (∀ x ∈ l, x.1.nm.size ≤ 140737488355328)
theorem SyR.below {X Y : World} {c : Sc} {o : Sy} {l : List (Pc × Sl)} (h : SyR X c o l) (hb : Below X.heap.size X Y) : SyR Y c o l := ⟨h.nm, h.cs.below hb, h.vs.below hb, h.pl, h.ps.below hb, fun p hp => (h.pp p hp).below hb, h.sz⟩
/-- A name of no monstrous length. -/
abbrev Nm := { x : ByteArray // x.size ≤ 140737488355328 }
def nmOf (b : ByteArray) : Nm := if h : b.size ≤ 140737488355328 then ⟨b, h⟩ else ⟨⟨#[]⟩, by show 0 ≤ _; omega⟩
theorem nmOf_val {b : ByteArray} (h : b.size ≤ 140737488355328) : (nmOf b).1 = b := by unfold nmOf; rw [dif_pos h]
/-- What a round keeps: what lay below n, and the box. -/
def KpN (n bx : Nat) (W W' : World) : Prop := Below n W W' ∧ W'.heap[bx]? = W.heap[bx]?
theorem KpN.t {n bx : Nat} {A B C : World} (h : KpN n bx A B) (k : KpN n bx B C) : KpN n bx A C := ⟨h.1.trans k.1, k.2.trans h.2⟩
theorem KpN.b {n bx N : Nat} (h1 : n ≤ N) (h2 : bx < N) (W : World) (l : Nat) (o o' : Obj) (hl : N ≤ l) (ho : W.heap[l]? = some o) : KpN n bx W (W.putObj l o') := by
  have hg := grownBy_putObj' W l o'
  exact ⟨⟨hg.os, hg.tape, hg.output, hg.size, fun k hk => World.putObj_heap_other (by omega)⟩, World.putObj_heap_other (by omega)⟩
def ivOf : Value → Int
  | .int _ q => q
  | _ => 0
theorem take_snoc {α : Type} (A : List α) (i : Nat) (h : i < A.length) : A.take i ++ [A[i]] = A.take (i + 1) := by rw [List.take_add_one, List.getElem?_eq_getElem h]; rfl
def allNm (o : Sy) (l : List (Pc × Sl)) : List Nm := o.cs.map (fun x : Cn => nmOf x.nm) ++ (o.vs.map (fun x : Vr => nmOf x.nm) ++ l.map (fun x : Pc × Sl => nmOf x.1.nm))
theorem gb_put {X Z : World} {cs : Array Value} {ty : TypeId} (z : Tq (X.alloc (.cells cs ty)) Z (fun k => k = X.heap.size)) : X.grownBy Z none := ⟨z.os, z.tape, z.output, Nat.le_trans (by simp) z.size, fun k hk _ => (z.blk k (by simp; omega) (by omega)).trans (Below.heap_alloc _ _ _ hk)⟩
theorem gb_keep {n bx : Nat} {X Z : World} (h : X.grownBy Z none) (hn : n ≤ X.heap.size) (hb : bx < X.heap.size) : KpN n bx X Z := ⟨⟨h.os, h.tape, h.output, h.size, fun k hk => h.block k (by omega) (by simp)⟩, h.block bx hb (by simp)⟩
/-- What stands between two rounds. -/
def ItI (v : World) (bx : Nat) (c : Sc) (J : List Nm → World → Prop) (pre : List Nm) (W : World) : Prop := Below v.heap.size v W ∧ BA W bx 26 c.cells ∧ J pre W
theorem ItI.next {v W W' : World} {bx : Nat} {c : Sc} {J : List Nm → World → Prop} {pre pre' : List Nm} (h : ItI v bx c J pre W) (hk : KpN v.heap.size bx W W') (hj : J pre' W') : ItI v bx c J pre' W' := ⟨h.1.trans hk.1, hk.2.trans h.2.1, hj⟩
/-- One of them, copied into a box: what the walk reads. -/
theorem box_con {v W : World} {s : Sl} {xs : List (Cn)} (h : RdV v 5 s xs.length (flat cEnc xs)) (hb : Below v.heap.size v W) (i : Nat) (hi : i < xs.length) : ∃ g off Z cc, s.a = some ⟨g, off, none⟩ ∧ (ldT 53 ⟨g, off + i * 5, none⟩).run Tryd.prog W = .ok (.agg cc) W ∧ (stT 53 ⟨W.heap.size, 0, none⟩ (.agg cc)).run Tryd.prog (W.alloc (.cells zeroC 53)) = .ok () Z ∧ Z.cell? ⟨W.heap.size, 0, none⟩ = some (.string xs[i].nm) ∧ Hid (W.grownBy Z none) := by
  obtain ⟨g, off, ha, hg, hc⟩ := (h.below hb).elem (fun _ => rfl) i hi
  have hl0 := ldT_mid (ty := 53) hc Tryd.underlying53 rfl (by kernel_rfl)
  obtain ⟨Z, z1, z2, z3⟩ := stT_run (w := W.alloc (.cells zeroC 53)) (cEnc xs[i]) (BA.new W _ zeroC) rfl (by kernel_rfl) (by simp [cEnc, Value.oneCell'])
  exact ⟨g, off, Z, _, ha, hl0, z1, by rw [z2.cell]; rfl, gb_put z3⟩
/-- One of them, copied into a box: what the walk reads. -/
theorem box_var {v W : World} {s : Sl} {xs : List (Vr)} (h : RdV v 5 s xs.length (flat vEnc xs)) (hb : Below v.heap.size v W) (i : Nat) (hi : i < xs.length) : ∃ g off Z cc, s.a = some ⟨g, off, none⟩ ∧ (ldT 69 ⟨g, off + i * 5, none⟩).run Tryd.prog W = .ok (.agg cc) W ∧ (stT 69 ⟨W.heap.size, 0, none⟩ (.agg cc)).run Tryd.prog (W.alloc (.cells zeroV 69)) = .ok () Z ∧ Z.cell? ⟨W.heap.size, 0, none⟩ = some (.string xs[i].nm) ∧ Hid (W.grownBy Z none) := by
  obtain ⟨g, off, ha, hg, hc⟩ := (h.below hb).elem (fun _ => rfl) i hi
  have hl0 := ldT_mid (ty := 69) hc Tryd.underlying69 rfl (by kernel_rfl)
  obtain ⟨Z, z1, z2, z3⟩ := stT_run (w := W.alloc (.cells zeroV 69)) (vEnc xs[i]) (BA.new W _ zeroV) rfl (by kernel_rfl) (by simp [vEnc, Value.oneCell'])
  exact ⟨g, off, Z, _, ha, hl0, z1, by rw [z2.cell]; rfl, gb_put z3⟩
/-- One of them, copied into a box: what the walk reads. -/
theorem box_prc {v W : World} {s : Sl} {xs : List (Pc × Sl)} (h : RdV v 3 s xs.length (flat pEnc xs)) (hb : Below v.heap.size v W) (i : Nat) (hi : i < xs.length) : ∃ g off Z cc, s.a = some ⟨g, off, none⟩ ∧ (ldT 63 ⟨g, off + i * 3, none⟩).run Tryd.prog W = .ok (.agg cc) W ∧ (stT 63 ⟨W.heap.size, 0, none⟩ (.agg cc)).run Tryd.prog (W.alloc (.cells zeroP 63)) = .ok () Z ∧ Z.cell? ⟨W.heap.size, 0, none⟩ = some (.string xs[i].1.nm) ∧ Hid (W.grownBy Z none) := by
  obtain ⟨g, off, ha, hg, hc⟩ := (h.below hb).elem (fun _ => rfl) i hi
  have hl0 := ldT_mid (ty := 63) hc Tryd.underlying63 rfl (by kernel_rfl)
  obtain ⟨Z, z1, z2, z3⟩ := stT_run (w := W.alloc (.cells zeroP 63)) (pEnc xs[i]) (BA.new W _ zeroP) rfl (by kernel_rfl) (by simp [pEnc, Value.oneCell'])
  exact ⟨g, off, Z, _, ha, hl0, z1, by rw [z2.cell]; rfl, gb_put z3⟩
set_option maxRecDepth 100000 in
set_option maxHeartbeats 32000000 in
theorem names1_in (F : Fence) (n : Nat) (hf : F.fn 79) (hro : F.round = none) (hn : 1 ≤ n) (l₀ bx : Nat) (v : World) (c : Sc) (o : Sy) (l : List (Pc × Sl)) (hr : SyR v c o l) (J Jx : List Nm → World → Prop)
    (hJ : ∀ s A B, J s A → A.grownBy B none → J s B)
    (hY : ∀ pre x W, J pre W → pre.length < (allNm o l).length → YieldAt F (n - 1) Tryd.prog l₀ #[.string x.1] W fun e W' =>
      (e = .returned (.bool true) ∧ J (pre ++ [x]) W' ∧ KpN v.heap.size bx W W') ∨ (e = .returned (.bool false) ∧ Jx (pre ++ [x]) W'))
    (W : World) (hb : Below v.heap.size v W) (hB : BA W bx 26 c.cells) (h0 : J [] W) :
    CallsIn F n Tryd.prog 79 #[.func (.yield l₀) #[] #[], .pointer (some ⟨bx, 0, none⟩)] W fun e W' => (∃ v, e = .returned v) ∧
      ((∃ ys, ys = allNm o l ∧ J ys W') ∨ (∃ pre, pre <+: allNm o l ∧ Jx pre W')) := by
  have HY := hid_of hY
  have HJ := hid_of hJ
  have HR := hid_of hr
  have n1 := hr.cs.len
  have n2 := hr.vs.len
  have n3 := hr.ps.len
  obtain ⟨A, hA⟩ : ∃ A, A = o.cs.map (fun x : Cn => nmOf x.nm) := ⟨_, rfl⟩
  obtain ⟨B, hBB⟩ : ∃ B, B = o.vs.map (fun x : Vr => nmOf x.nm) := ⟨_, rfl⟩
  obtain ⟨C, hC⟩ : ∃ C, C = l.map (fun x : Pc × Sl => nmOf x.1.nm) := ⟨_, rfl⟩
  have hall : allNm o l = A ++ (B ++ C) := by rw [hA, hBB, hC]; rfl
  rw [hall] at HY ⊢
  have a1 : A.length = c.cs.n := by rw [hA, n1, List.length_map]
  have a2 : B.length = c.vs.n := by rw [hBB, n2, List.length_map]
  have a3 : C.length = c.ps.n := by rw [hC, n3, List.length_map]
  have m1 := hr.cs.most
  have m2 := hr.vs.most
  have m3 := hr.ps.most
  rw [← n1] at m1
  rw [← n2] at m2
  rw [← n3] at m3
  have E1 : Hid (∀ i, i < c.cs.n → ∀ X, Below v.heap.size v X → ∃ g off Z cc x, A[i]? = some x ∧ c.cs.a = some ⟨g, off, none⟩ ∧ (ldT 53 ⟨g, off + i * 5, none⟩).run Tryd.prog X = .ok (.agg cc) X ∧ (stT 53 ⟨X.heap.size, 0, none⟩ (.agg cc)).run Tryd.prog (X.alloc (.cells zeroC 53)) = .ok () Z ∧ Z.cell? ⟨X.heap.size, 0, none⟩ = some (.string x.1) ∧ Hid (X.grownBy Z none)) := hid_of fun i hi X hX => by
    have hiL : i < o.cs.length := by omega
    obtain ⟨g, off, Z, cc, h1, h2, h3, h4, h5⟩ := box_con hr.cs hX i hiL
    exact ⟨g, off, Z, cc, nmOf (o.cs[i]'hiL).nm, by simp [hA, hiL], h1, h2, h3, by rw [nmOf_val (hr.sz.2.1 _ (List.getElem_mem hiL))]; exact h4, h5⟩
  have E2 : Hid (∀ i, i < c.vs.n → ∀ X, Below v.heap.size v X → ∃ g off Z cc x, B[i]? = some x ∧ c.vs.a = some ⟨g, off, none⟩ ∧ (ldT 69 ⟨g, off + i * 5, none⟩).run Tryd.prog X = .ok (.agg cc) X ∧ (stT 69 ⟨X.heap.size, 0, none⟩ (.agg cc)).run Tryd.prog (X.alloc (.cells zeroV 69)) = .ok () Z ∧ Z.cell? ⟨X.heap.size, 0, none⟩ = some (.string x.1) ∧ Hid (X.grownBy Z none)) := hid_of fun i hi X hX => by
    have hiL : i < o.vs.length := by omega
    obtain ⟨g, off, Z, cc, h1, h2, h3, h4, h5⟩ := box_var hr.vs hX i hiL
    exact ⟨g, off, Z, cc, nmOf (o.vs[i]'hiL).nm, by simp [hBB, hiL], h1, h2, h3, by rw [nmOf_val (hr.sz.2.2.1 _ (List.getElem_mem hiL))]; exact h4, h5⟩
  have E3 : Hid (∀ i, i < c.ps.n → ∀ X, Below v.heap.size v X → ∃ g off Z cc x, C[i]? = some x ∧ c.ps.a = some ⟨g, off, none⟩ ∧ (ldT 63 ⟨g, off + i * 3, none⟩).run Tryd.prog X = .ok (.agg cc) X ∧ (stT 63 ⟨X.heap.size, 0, none⟩ (.agg cc)).run Tryd.prog (X.alloc (.cells zeroP 63)) = .ok () Z ∧ Z.cell? ⟨X.heap.size, 0, none⟩ = some (.string x.1) ∧ Hid (X.grownBy Z none)) := hid_of fun i hi X hX => by
    have hiL : i < l.length := by omega
    obtain ⟨g, off, Z, cc, h1, h2, h3, h4, h5⟩ := box_prc hr.ps hX i hiL
    exact ⟨g, off, Z, cc, nmOf (l[i]'hiL).1.nm, by simp [hC, hiL], h1, h2, h3, by rw [nmOf_val (hr.sz.2.2.2 _ (List.getElem_mem hiL))]; exact h4, h5⟩
  have K : Hid (∀ X pre, ItI v bx c J pre X → X.cell? ⟨bx, 1, none⟩ = some (.slice c.cs.a c.cs.n c.cs.c) ∧ X.cell? ⟨bx, 2, none⟩ = some (.slice c.vs.a c.vs.n c.vs.c) ∧ X.cell? ⟨bx, 3, none⟩ = some (.slice c.ps.a c.ps.n c.ps.c)) := hid_of fun X pre hX => ⟨hX.2.1.cell 1, hX.2.1.cell 2, hX.2.1.cell 3⟩
  have H0 := hid_of (show ItI v bx c J [] W from ⟨hb, hB, h0⟩)
  have c1 := (K.out W _ H0.out).1
  clear hY hJ hr hA hBB hC n1 n2 n3 hb hB h0 hall
  unfold zeroC at E1
  unfold zeroV at E2
  unfold zeroP at E3
  have AL := hid_of (And.intro a1 (And.intro a2 a3))
  clear a1 a2 a3
  obtain ⟨cnm, ⟨q1, s1, t1⟩, ⟨q2, s2, t2⟩, ⟨q3, s3, t3⟩⟩ := c
  dsimp only at *
  refine callsIn_of_wp Tryd.func79 rfl hf ?_ hro
  simp only [Tryd.ntmps79, List.size_toArray, List.length_cons, List.length_nil, Nat.reduceAdd, Nat.reduceSub, Array.replicate_succ, Array.replicate_zero, List.push_toArray, List.append_toArray, List.nil_append, List.cons_append]
  gi_wp2
  gi_loopw [12] (fun p wr => ∃ i : Nat, p = .int .i64 (i : Int) ∧ i ≤ s1 ∧ Hid (ItI v bx ⟨cnm, ⟨q1, s1, t1⟩, ⟨q2, s2, t2⟩, ⟨q3, s3, t3⟩⟩ J (A.take i) wr)) (fun p wr => s1 - (ivOf p).toNat)
  case atStart => exact ⟨0, rfl, by omega, hid_of (by have hst := H0.out; simpa using hst)⟩
  case round =>
    obtain ⟨i, rfl, hi, HI⟩ := hrel
    have al := AL.out
    by_cases hlt : i < s1
    · have d1 : decide ((i : Int) < (s1 : Int)) = true := decide_eq_true (by omega)
      have j0 : (0 : Int) ≤ (i : Int) := by omega
      have j1 : (i : Int) < (s1 : Int) := by omega
      obtain ⟨g, off, Z, cc, x, hx, rfl, l0, s0, z0, hg⟩ := E1.out i hlt wr HI.out.1
      have hxl : i < A.length := by omega
      have hx2 : A[i] = x := by rw [List.getElem?_eq_getElem hxl] at hx; exact Option.some.inj hx
      have hnx : A.take i ++ [x] = A.take (i + 1) := by rw [← hx2, take_snoc A i hxl]
      have hgk := gb_keep (n := v.heap.size) (bx := bx) hg.out HI.out.1.size HI.out.2.1.lt
      obtain ⟨fn, tmps, assign, body, hy, hR⟩ := HY.out (A.take i) x Z (HJ.out _ _ _ HI.out.2.2 hg.out) (by simp; omega)
      have HK := hid_of (HI.out.next hgk (HJ.out _ _ _ HI.out.2.2 hg.out))
      have hw : wrap64 ((i : Int) + 1) = (i : Int) + 1 := by rw [IntWalk.wrap64_in] <;> omega
      have HNX := hid_of hnx
      clear HI hg hgk hx hx2 hnx hxl al
      gi_wp2
      refine hR.mono ?_
      rintro e W3 (⟨rfl, hJ3, hk3⟩ | ⟨rfl, hJx3⟩)
      · have H3 := hid_of (HK.out.next hk3 hJ3)
        rw [HNX.out] at H3
        clear hJ3 hk3 HK
        gi_wp2
        go_roundw
        case rel => exact ⟨i + 1, by simp [hw], by omega, H3.out⟩
        case measure => simp [ivOf, hw]; omega
      · gi_wp2
        refine bodyPost_ret (results_none rfl _ _ _) rfl ?_
        rw [HNX.out] at hJx3
        exact ⟨⟨_, rfl⟩, .inr ⟨_, ⟨A.drop (i + 1) ++ (B ++ C), by rw [← List.append_assoc, List.take_append_drop]⟩, hJx3⟩⟩
    · have d1 : decide ((i : Int) < (s1 : Int)) = false := decide_eq_false (by omega)
      have htk : A.take i = A := List.take_of_length_le (by omega)
      rw [htk] at HI
      clear htk al
      have HZ1 := HI
      have c2 := (K.out _ _ HI.out).2.1
      clear HI
      gi_wp2
      gi_loopw [25] (fun p wr => ∃ i : Nat, p = .int .i64 (i : Int) ∧ i ≤ s2 ∧ Hid (ItI v bx ⟨cnm, ⟨q1, s1, t1⟩, ⟨q2, s2, t2⟩, ⟨q3, s3, t3⟩⟩ J (A ++ B.take i) wr)) (fun p wr => s2 - (ivOf p).toNat)
      case atStart => exact ⟨0, rfl, by omega, hid_of (by have hst := HZ1.out; simpa using hst)⟩
      case round =>
        obtain ⟨i, rfl, hi, HI⟩ := hrel
        have al := AL.out
        by_cases hlt : i < s2
        · have d1 : decide ((i : Int) < (s2 : Int)) = true := decide_eq_true (by omega)
          have j0 : (0 : Int) ≤ (i : Int) := by omega
          have j1 : (i : Int) < (s2 : Int) := by omega
          obtain ⟨g, off, Z, cc, x, hx, rfl, l0, s0, z0, hg⟩ := E2.out i hlt wr HI.out.1
          have hxl : i < B.length := by omega
          have hx2 : B[i] = x := by rw [List.getElem?_eq_getElem hxl] at hx; exact Option.some.inj hx
          have hnx : A ++ B.take i ++ [x] = A ++ B.take (i + 1) := by rw [← hx2, List.append_assoc, take_snoc B i hxl]
          have hgk := gb_keep (n := v.heap.size) (bx := bx) hg.out HI.out.1.size HI.out.2.1.lt
          obtain ⟨fn, tmps, assign, body, hy, hR⟩ := HY.out (A ++ B.take i) x Z (HJ.out _ _ _ HI.out.2.2 hg.out) (by simp; omega)
          have HK := hid_of (HI.out.next hgk (HJ.out _ _ _ HI.out.2.2 hg.out))
          have hw : wrap64 ((i : Int) + 1) = (i : Int) + 1 := by rw [IntWalk.wrap64_in] <;> omega
          have HNX := hid_of hnx
          clear HI hg hgk hx hx2 hnx hxl al
          gi_wp2
          refine hR.mono ?_
          rintro e W3 (⟨rfl, hJ3, hk3⟩ | ⟨rfl, hJx3⟩)
          · have H3 := hid_of (HK.out.next hk3 hJ3)
            rw [HNX.out] at H3
            clear hJ3 hk3 HK
            gi_wp2
            go_roundw
            case rel => exact ⟨i + 1, by simp [hw], by omega, H3.out⟩
            case measure => simp [ivOf, hw]; omega
          · gi_wp2
            refine bodyPost_ret (results_none rfl _ _ _) rfl ?_
            rw [HNX.out] at hJx3
            exact ⟨⟨_, rfl⟩, .inr ⟨_, ⟨B.drop (i + 1) ++ C, by rw [List.append_assoc, ← List.append_assoc (B.take (i + 1)), List.take_append_drop]⟩, hJx3⟩⟩
        · have d1 : decide ((i : Int) < (s2 : Int)) = false := decide_eq_false (by omega)
          have htk : B.take i = B := List.take_of_length_le (by omega)
          rw [htk] at HI
          clear htk al
          have HZ2 := HI
          have c3 := (K.out _ _ HI.out).2.2
          clear HI
          gi_wp2
          gi_loopw [38] (fun p wr => ∃ i : Nat, p = .int .i64 (i : Int) ∧ i ≤ s3 ∧ Hid (ItI v bx ⟨cnm, ⟨q1, s1, t1⟩, ⟨q2, s2, t2⟩, ⟨q3, s3, t3⟩⟩ J (A ++ (B ++ C.take i)) wr)) (fun p wr => s3 - (ivOf p).toNat)
          case atStart => exact ⟨0, rfl, by omega, hid_of (by have hst := HZ2.out; simpa using hst)⟩
          case round =>
            obtain ⟨i, rfl, hi, HI⟩ := hrel
            have al := AL.out
            by_cases hlt : i < s3
            · have d1 : decide ((i : Int) < (s3 : Int)) = true := decide_eq_true (by omega)
              have j0 : (0 : Int) ≤ (i : Int) := by omega
              have j1 : (i : Int) < (s3 : Int) := by omega
              obtain ⟨g, off, Z, cc, x, hx, rfl, l0, s0, z0, hg⟩ := E3.out i hlt wr HI.out.1
              have hxl : i < C.length := by omega
              have hx2 : C[i] = x := by rw [List.getElem?_eq_getElem hxl] at hx; exact Option.some.inj hx
              have hnx : A ++ (B ++ C.take i) ++ [x] = A ++ (B ++ C.take (i + 1)) := by rw [← hx2, List.append_assoc, List.append_assoc, take_snoc C i hxl]
              have hgk := gb_keep (n := v.heap.size) (bx := bx) hg.out HI.out.1.size HI.out.2.1.lt
              obtain ⟨fn, tmps, assign, body, hy, hR⟩ := HY.out (A ++ (B ++ C.take i)) x Z (HJ.out _ _ _ HI.out.2.2 hg.out) (by simp; omega)
              have HK := hid_of (HI.out.next hgk (HJ.out _ _ _ HI.out.2.2 hg.out))
              have hw : wrap64 ((i : Int) + 1) = (i : Int) + 1 := by rw [IntWalk.wrap64_in] <;> omega
              have HNX := hid_of hnx
              clear HI hg hgk hx hx2 hnx hxl al
              gi_wp2
              refine hR.mono ?_
              rintro e W3 (⟨rfl, hJ3, hk3⟩ | ⟨rfl, hJx3⟩)
              · have H3 := hid_of (HK.out.next hk3 hJ3)
                rw [HNX.out] at H3
                clear hJ3 hk3 HK
                gi_wp2
                go_roundw
                case rel => exact ⟨i + 1, by simp [hw], by omega, H3.out⟩
                case measure => simp [ivOf, hw]; omega
              · gi_wp2
                refine bodyPost_ret (results_none rfl _ _ _) rfl ?_
                rw [HNX.out] at hJx3
                exact ⟨⟨_, rfl⟩, .inr ⟨_, ⟨C.drop (i + 1), by rw [List.append_assoc, List.append_assoc, List.take_append_drop]⟩, hJx3⟩⟩
            · have d1 : decide ((i : Int) < (s3 : Int)) = false := decide_eq_false (by omega)
              have htk : C.take i = C := List.take_of_length_le (by omega)
              rw [htk] at HI
              clear htk al
              gi_wp2
              go_end0
              exact ⟨⟨_, rfl⟩, .inl ⟨_, rfl, HI.out.2.2⟩⟩
end Go.Proofs.YtcppgpcgbggdcaaDoor
