/-
  Layer 17: the entries of all leaves, one behind the other: the iterator.
-/
import Derived.Test.YtmjflbleobmjdaaGreatDoorRfb
import Derived.RangeFuncNested
import Derived.RangeFuncBound
import Derived.RangeFuncCalls
import Derived.RangeFuncLeaves
import Derived.RangeFuncWrites
import Derived.Shelf.Abstract
import Derived.Shelf.RegionOpen
import Derived.OwnWalkIn
import Derived.TacticsInMore
import Derived.LoopNIn
import Derived.LoopIn
namespace Go.Proofs.YtmjflbleobmjdaaGreatDoor
set_option linter.unusedVariables false
set_option linter.unusedSimpArgs false
open Go.ChangeShapes Go.WideShapes Go.ChangeAt Go.RowKit Go.Shelf
attribute [local go_sem ↓] loadSec_seal storeSec_seal eqlSec_seal zeroSec
attribute [local go_sem] loadSec_run storeSec_run rowAt_at rowAt_old rowAt_drew rowAt_drewN roomSec_new roomAt_old roomAt_drew roomAt_drewN putSec_new putRow_past rowSec_put size_put putRow_drew putRow_drewN alloc_drewN setCell_drewN sec_size

set_option linter.unusedVariables false
attribute [local go_sem] Oper.semAt_some

/-- What is yielded. -/
def encE : Option En → Array Value
  | some e => #[e.val, .bool true]
  | none => #[zeroE, .bool false]
/-- What a round keeps: but for the directory's block, what lay below n1, and each row of bytes. -/
structure KpX (n1 x : Nat) (W W' : World) : Prop where
  os : W'.os = W.os
  tape : W'.tape = W.tape
  output : W'.output = W.output
  size : W.heap.size ≤ W'.heap.size
  same : ∀ k, k < W.heap.size → k ≠ x → (k < n1 ∨ ∃ z, W.cell? ⟨k, 0, none⟩ = some (.int .u8 z)) → W'.heap[k]? = W.heap[k]?
theorem KpX.refl (n1 x : Nat) (W : World) : KpX n1 x W W := ⟨rfl, rfl, rfl, Nat.le_refl _, fun _ _ _ _ => rfl⟩
theorem KpX.t {n1 x : Nat} {A B C : World} (h : KpX n1 x A B) (k : KpX n1 x B C) : KpX n1 x A C :=
  ⟨k.os.trans h.os, k.tape.trans h.tape, k.output.trans h.output, Nat.le_trans h.size k.size, fun i hi hx hc => by
    have e := h.same i hi hx hc
    refine (k.same i (Nat.lt_of_lt_of_le hi h.size) hx ?_).trans e
    rcases hc with hc | ⟨z, hz⟩
    · exact .inl hc
    · exact .inr ⟨z, (World.cell?_of_block (a := ⟨i, 0, none⟩) e).trans hz⟩⟩
theorem KpX.below {n1 x : Nat} {A B : World} (h : Below A.heap.size A B) : KpX n1 x A B := ⟨h.os, h.tape, h.output, h.size, fun k hk _ _ => h.block k hk⟩
theorem KpX.put {n1 x N : Nat} (hN : n1 ≤ N) (W : World) (l : Nat) (o o' : Obj) (hl : N ≤ l) (ho : W.heap[l]? = some o) (hc : o.isCells = false) : KpX n1 x W (W.putObj l o') := by
  have hg := grownBy_putObj' W l o'
  refine ⟨hg.os, hg.tape, hg.output, hg.size, fun k hk hx h => World.putObj_heap_other ?_⟩
  rintro rfl
  rcases h with h | ⟨z, hz⟩
  · omega
  · cases o with
    | cells => cases hc
    | _ => simp [World.cell?, ho] at hz
/-- From the loop's start. -/
def StX (v : World) (x : Nat) (W : World) : Prop := Tou (fun k => k = x) v W
theorem StX.kp {v W W' : World} {x : Nat} (h : StX v x W) (k : KpX v.heap.size x W W') : StX v x W' :=
  ⟨k.os.trans h.os, k.tape.trans h.tape, k.output.trans h.output, Nat.le_trans h.size k.size, fun i hi hx => (k.same i (Nat.lt_of_lt_of_le hi h.size) hx (.inl hi)).trans (h.block i hi hx)⟩
theorem StX.cell {v W : World} {x : Nat} (h : StX v x W) {p : Addr} (hp : p.block < v.heap.size) (hx : p.block ≠ x) : W.cell? p = v.cell? p := World.cell?_of_block (h.block _ hp hx)
/-- A row of bytes that a call of the iterator's made. -/
theorem rd_kp {n1 x : Nat} {W W' : World} {g len : Nat} {f : Nat → Int} (h : RdB W (some ⟨g, 0, none⟩) len f) (k : KpX n1 x W W') (hg : g ≠ x) (hl : 0 < len) : RdB W' (some ⟨g, 0, none⟩) len f := by
  refine ⟨h.1, ?_⟩
  rcases h.2 with h0 | ⟨b, off, he, hc⟩
  · omega
  · injection he with he
    injection he with e1 e2 _
    subst e1 e2
    have h0 := (hc 0 hl).1
    have hlt := World.block_lt_of_cell? _ _ h0
    exact .inr ⟨g, 0, rfl, fun i hi => ⟨(World.cell?_of_block (k.same g hlt hg (.inr ⟨_, h0⟩))).trans (hc i hi).1, (hc i hi).2⟩⟩
def ivX : Value → Int
  | .int _ q => q
  | _ => 0
/-- What a leaf asks for. -/
def leafBad (m : Int) (r : List Int) : Bool := decide (m = 0 ∨ (m ≠ 31 ∧ r ≠ []))
theorem items_none {n : Nat} {S : Nat → Nat → Int} {leaf : Int} {r : List Int} (h : markedP n S leaf leafM 31 = none) : itemsP n S (leaf :: r) = [none] := by rw [itemsP, h]
theorem items_bad {n : Nat} {S : Nat → Nat → Int} {leaf m : Int} {r : List Int} (h : markedP n S leaf leafM 31 = some m) (hb : leafBad m r = true) : itemsP n S (leaf :: r) = [none] := by
  rw [itemsP, h]
  simp only []
  rw [if_pos (of_decide_eq_true hb)]
theorem items_good {n : Nat} {S : Nat → Nat → Int} {leaf m : Int} {r : List Int} (h : markedP n S leaf leafM 31 = some m) (hb : leafBad m r = false) : itemsP n S (leaf :: r) = (List.range m.toNat).map (entP (S leaf.toNat)) ++ itemsP n S r := by
  rw [itemsP, h]
  simp only []
  rw [if_neg (of_decide_eq_false hb)]
/-- What the iterator stands on. -/
structure OnB (v : World) (x d b1 b2 : Nat) (D : Dk) (A : Nat → Prop) (a : Option Addr) (c : Nat) (ls : List Int) (m0 : Int) : Prop where
  rep : Rep v d D
  dx : ∀ y, D.mut d y ∨ D.fix y → y ≠ x
  row : RowI A v (.slice a ls.length c) ls
  ax : ∀ b, A b → b ≠ x
  c1 : v.cell? ⟨b1, 0, none⟩ = some (.slice a ls.length c)
  c2 : v.cell? ⟨b2, 0, none⟩ = some (.pointer (some ⟨d, 0, none⟩))
  b1x : b1 ≠ x
  b2x : b2 ≠ x
  m : v.cell? ⟨0, 0, none⟩ = some (.int .i64 m0)
  x0 : 0 ≠ x
  xv : x < v.heap.size
structure OnF (d b1 b2 : Nat) (D : Dk) (a : Option Addr) (c : Nat) (ls : List Int) (m0 : Int) (W : World) : Prop where
  rep : Rep W d D
  c1 : W.cell? ⟨b1, 0, none⟩ = some (.slice a ls.length c)
  c2 : W.cell? ⟨b2, 0, none⟩ = some (.pointer (some ⟨d, 0, none⟩))
  m : W.cell? ⟨0, 0, none⟩ = some (.int .i64 m0)
  row : ∀ i, i < ls.length → ∃ b off, a = some ⟨b, off, none⟩ ∧ W.cell? ⟨b, off + i, none⟩ = some (.int .i64 (ls.getD i 0))
theorem OnB.at {v W : World} {x d b1 b2 : Nat} {D : Dk} {A : Nat → Prop} {a : Option Addr} {c : Nat} {ls : List Int} {m0 : Int} (h : OnB v x d b1 b2 D A a c ls m0) (hs : StX v x W) : OnF d b1 b2 D a c ls m0 W := by
  refine ⟨h.rep.tou hs (fun y hy hd => h.dx y hd hy), (hs.cell (World.block_lt_of_cell? _ _ h.c1) h.b1x).trans h.c1, (hs.cell (World.block_lt_of_cell? _ _ h.c2) h.b2x).trans h.c2, (hs.cell (World.block_lt_of_cell? _ _ h.m) h.x0).trans h.m, fun i hi => ?_⟩
  obtain ⟨_, a', c', he, h1, h2, h3⟩ := h.row
  injection he with e1 e2 e3
  subst e1 e3
  obtain ⟨b, off, ha, hA, hb, hc⟩ := h3 (fun e => by rw [e] at hi; cases hi)
  exact ⟨b, off, ha, (hs.cell (p := ⟨b, off + i, none⟩) hb (h.ax b hA)).trans (hc i hi)⟩
/-- What stands between two yields. -/
structure OnI (v : World) (x : Nat) (J : List (Option En) → World → Prop) (all rest : List (Option En)) (W : World) : Prop where
  st : StX v x W
  ex : ∃ pre, J pre W ∧ cutN all = pre ++ cutN rest
theorem OnI.below {v W W' : World} {x : Nat} {J : List (Option En) → World → Prop} {all rest : List (Option En)} (hJ : ∀ s A B, J s A → A.grownBy B none → J s B) (h : OnI v x J all rest W) (hb : Below W.heap.size W W') : OnI v x J all rest W' := by
  obtain ⟨pre, h1, h2⟩ := h.ex
  exact ⟨h.st.kp (KpX.below hb), pre, hJ _ _ _ h1 ⟨hb.os, hb.tape, hb.output, hb.size, fun k hk _ => hb.block k hk⟩, h2⟩
theorem none_lt {α : Type} {all pre : List (Option α)} {rest : List (Option α)} (h : cutN all = pre ++ cutN (none :: rest)) : pre.length < (cutN all).length := by rw [h, List.length_append]; simp [cutN]
theorem some_lt {α : Type} {all pre : List (Option α)} {y : α} {rest : List (Option α)} (h : cutN all = pre ++ cutN (some y :: rest)) : pre.length < (cutN all).length := by rw [h, List.length_append]; simp [cutN]
theorem range_drop {α : Type} (g : Nat → α) (m k : Nat) (h : k < m) : ((List.range m).map g).drop k = g k :: ((List.range m).map g).drop (k + 1) := by
  rw [List.drop_eq_getElem_cons (by simpa using h)]
  simp
set_option maxRecDepth 100000 in
set_option maxHeartbeats 32000000 in
theorem onLeaves_in (n : Nat) (hn : 2 ≤ n) (l₀ x d b1 b2 : Nat) (D : Dk) (A : Nat → Prop) (a : Option Addr) (c : Nat) (ls : List Int) (m0 : Int) (v : World) (hB : OnB v x d b1 b2 D A a c ls m0) (hln : ls.length ≤ 1000) (J Jx : List (Option En) → World → Prop)
    (hJ : ∀ s A B, J s A → A.grownBy B none → J s B)
    (hY : ∀ pre y W, J pre W → pre.length < (cutN (itemsP D.n D.S ls)).length → YieldAt Fence.wide (n - 1) Tryz.prog l₀ (encE y) W fun e W' =>
      (e = .returned (.bool true) ∧ J (pre ++ [y]) W' ∧ KpX v.heap.size x W W') ∨ (e = .returned (.bool false) ∧ Jx (pre ++ [y]) W'))
    (W : World) (hb : Below v.heap.size v W) (h0 : J [] W) :
    CallsIn Fence.wide n Tryz.prog 77 #[.func (.yield l₀) #[] #[], .pointer (some ⟨b1, 0, none⟩), .pointer (some ⟨b2, 0, none⟩)] W fun e W' => (∃ v, e = .returned v) ∧
      ((∃ ys, ys = cutN (itemsP D.n D.S ls) ∧ J ys W') ∨ (∃ pre, pre <+: cutN (itemsP D.n D.S ls) ∧ Jx pre W')) := by
  have h1 : 1 ≤ n := by omega
  have HY := hidD hY
  have HJ := hidD hJ
  have HB := hidD hB
  have H0 := hidD (⟨Below.tou hb _, [], h0, rfl⟩ : OnI v x J (itemsP D.n D.S ls) (itemsP D.n D.S ls) W)
  have hF0 := hB.at H0.out.st
  have c1 := hF0.c1
  have c2 := hF0.c2
  have l1 : (ls.length : Int) ≤ 1000 := by omega
  have HLN := hidD hln
  clear hY hJ hB hb h0 hF0 hln
  refine callsIn_of_wp Tryz.func77 rfl trivial ?_ rfl
  simp only [Tryz.ntmps77, List.size_toArray, List.length_cons, List.length_nil, Nat.reduceAdd, Nat.reduceSub, Array.replicate_succ, Array.replicate_zero, List.push_toArray, List.append_toArray, List.nil_append, List.cons_append]
  gi_wp2
  gi_loopw [16] (fun p wr => ∃ i : Nat, p = .int .i64 (i : Int) ∧ i ≤ ls.length ∧ Hid (OnI v x J (itemsP D.n D.S ls) (itemsP D.n D.S (ls.drop i)) wr)) (fun p wr => ls.length - (ivX p).toNat)
  case atStart => exact ⟨0, rfl, by omega, hidD (by have := H0.out; simpa using this)⟩
  case round =>
    obtain ⟨i, rfl, hi, HI⟩ := hrel
    clear H0 c1 c2
    have hF := HB.out.at HI.out.st
    by_cases hlt : i < ls.length
    · have d1 : decide ((i : Int) < (ls.length : Int)) = true := decide_eq_true (by omega)
      have j0 : (0 : Int) ≤ (i : Int) := by omega
      have j1 : (i : Int) < (ls.length : Int) := by omega
      obtain ⟨b, off, rfl, hcell⟩ := hF.row i hlt
      have c1 := hF.c1
      have c2 := hF.c2
      have hdr := drop_at hlt
      generalize ls.getD i 0 = leaf at hcell hdr
      have HM := hidD (fun X (hX : Below wr.heap.size wr X) => readMarked_any d D leaf leafM 31 X (hF.rep.below hX) (by omega))
      have HDR := hidD hdr
      clear hF hdr
      cases hm : markedP D.n D.S leaf leafM 31 with
      | none =>
        have HIT : Hid (itemsP D.n D.S (ls.drop i) = [none]) := by show _ = _; rw [HDR.out, items_none hm]
        rw [hm] at HM
        clear hm
        gi_wp2_with (refine ⟨trivial, ?_⟩; gi_at_call 42; refine (callsIn_wide.2 (HM.out _ (Below.refl _ _))).mono ?_; rintro e w1 ⟨he, hb1⟩; obtain rfl := (show e = _ from he); have HI1 := hidD (HI.out.below HJ.out hb1); have k1 := (HB.out.at HI1.out.st).c1; clear hb1 he; obtain ⟨pre, hJp, hcut⟩ := HI1.out.ex; rw [HIT.out] at hcut; obtain ⟨fn, tmps, assign, body, hy, hR⟩ := HY.out pre none w1 hJp (none_lt hcut); dsimp only [encE, zeroE] at hy; have HC := hidD hcut; have HRR := hidD hR; clear hcut hJp hR)
        refine HRR.out.mono ?_
        rintro e W3 (⟨rfl, hJ3, hk3⟩ | ⟨rfl, hJx3⟩)
        · gi_wp2
          refine bodyPost_ret (results_none rfl _ _ _) rfl ?_
          exact ⟨⟨_, rfl⟩, .inl ⟨_, HC.out.symm, hJ3⟩⟩
        · gi_wp2
          refine bodyPost_ret (results_none rfl _ _ _) rfl ?_
          exact ⟨⟨_, rfl⟩, .inr ⟨_, by rw [HC.out]; exact List.prefix_refl _, hJx3⟩⟩
      | some m =>
        have hm2 := marked_le hm
        have hbd := wdF_bd ((HB.out.at HI.out.st).rep.secS leaf.toNat (by omega)).2 (i := 1) (by omega)
        obtain ⟨q, rfl⟩ := some_nat (m := m) (by have := hm2.2.2.2.1; omega)
        have hq : q ≤ 31 := by have := hm2.2.2.2.2; omega
        have HMK := hidD hm
        rw [hm] at HM
        have hlast : ((i : Int) == (ls.length : Int) - 1) = true ↔ ls.drop (i + 1) = [] := by
          rw [beq_iff_eq, List.drop_eq_nil_iff]; omega
        have w8 : IntKind.i64.wrap ((ls.length : Int) - 1) = (ls.length : Int) - 1 := by rw [IntWalk.i64_left, IntWalk.wrap64_in] <;> omega
        clear hm hm2 hbd
        by_cases hbad : leafBad q (ls.drop (i + 1)) = true
        · have HIT : Hid (itemsP D.n D.S (ls.drop i) = [none]) := by show _ = _; rw [HDR.out, items_bad HMK.out hbad]
          have hbb := of_decide_eq_true hbad
          clear hbad
          cases e0 : ((q : Int) == 0)
          · have e31 : ((q : Int) == 31) = false := by
              have h0 : ¬ (q : Int) = 0 := by simpa using e0
              rcases hbb with h | h
              · exact absurd h h0
              · simpa using h.1
            have eL : ((i : Int) == (ls.length : Int) - 1) = false := by
              have h0 : ¬ (q : Int) = 0 := by simpa using e0
              rcases hbb with h | h
              · exact absurd h h0
              · cases hh : ((i : Int) == (ls.length : Int) - 1)
                · rfl
                · exact absurd (hlast.1 hh) h.2
            clear hbb hlast
            gi_wp2_with (refine ⟨trivial, ?_⟩; gi_at_call 42; refine (callsIn_wide.2 (HM.out _ (Below.refl _ _))).mono ?_; rintro e w1 ⟨he, hb1⟩; obtain ⟨g, rfl, hg, hng⟩ := (show ∃ g, e = _ ∧ _ ∧ _ from he); have HG := hidD hg; have HNG := hidD hng; clear hg hng; have HI1 := hidD (HI.out.below HJ.out hb1); have k1 := (HB.out.at HI1.out.st).c1; clear hb1 he; obtain ⟨pre, hJp, hcut⟩ := HI1.out.ex; rw [HIT.out] at hcut; obtain ⟨fn, tmps, assign, body, hy, hR⟩ := HY.out pre none w1 hJp (none_lt hcut); dsimp only [encE, zeroE] at hy; have HC := hidD hcut; have HRR := hidD hR; clear hcut hJp hR)
            refine HRR.out.mono ?_
            rintro e W3 (⟨rfl, hJ3, hk3⟩ | ⟨rfl, hJx3⟩)
            · gi_wp2
              refine bodyPost_ret (results_none rfl _ _ _) rfl ?_
              exact ⟨⟨_, rfl⟩, .inl ⟨_, HC.out.symm, hJ3⟩⟩
            · gi_wp2
              refine bodyPost_ret (results_none rfl _ _ _) rfl ?_
              exact ⟨⟨_, rfl⟩, .inr ⟨_, by rw [HC.out]; exact List.prefix_refl _, hJx3⟩⟩
          · clear hbb hlast
            gi_wp2_with (refine ⟨trivial, ?_⟩; gi_at_call 42; refine (callsIn_wide.2 (HM.out _ (Below.refl _ _))).mono ?_; rintro e w1 ⟨he, hb1⟩; obtain ⟨g, rfl, hg, hng⟩ := (show ∃ g, e = _ ∧ _ ∧ _ from he); have HG := hidD hg; have HNG := hidD hng; clear hg hng; have HI1 := hidD (HI.out.below HJ.out hb1); have k1 := (HB.out.at HI1.out.st).c1; clear hb1 he; obtain ⟨pre, hJp, hcut⟩ := HI1.out.ex; rw [HIT.out] at hcut; obtain ⟨fn, tmps, assign, body, hy, hR⟩ := HY.out pre none w1 hJp (none_lt hcut); dsimp only [encE, zeroE] at hy; have HC := hidD hcut; have HRR := hidD hR; clear hcut hJp hR)
            refine HRR.out.mono ?_
            rintro e W3 (⟨rfl, hJ3, hk3⟩ | ⟨rfl, hJx3⟩)
            · gi_wp2
              refine bodyPost_ret (results_none rfl _ _ _) rfl ?_
              exact ⟨⟨_, rfl⟩, .inl ⟨_, HC.out.symm, hJ3⟩⟩
            · gi_wp2
              refine bodyPost_ret (results_none rfl _ _ _) rfl ?_
              exact ⟨⟨_, rfl⟩, .inr ⟨_, by rw [HC.out]; exact List.prefix_refl _, hJx3⟩⟩
        · have hgood : leafBad q (ls.drop (i + 1)) = false := by simpa using hbad
          have HIT : Hid (itemsP D.n D.S (ls.drop i) = (List.range q).map (entP (D.S leaf.toNat)) ++ itemsP D.n D.S (ls.drop (i + 1))) := by show _ = _; rw [HDR.out, items_good HMK.out hgood]; rfl
          have hng0 := of_decide_eq_false hgood
          have e0 : ((q : Int) == 0) = false := by
            cases hh : ((q : Int) == 0)
            · rfl
            · exact absurd (.inl (by simpa using hh)) hng0
          have HX : v.heap.size ≤ wr.heap.size := HI.out.st.size
          have hor : ((q : Int) == 31) = true ∨ (((q : Int) == 31) = false ∧ ((i : Int) == (ls.length : Int) - 1) = true) := by
            cases hh : ((q : Int) == 31)
            · right
              refine ⟨rfl, hlast.2 ?_⟩
              cases hd : ls.drop (i + 1) with
              | nil => rfl
              | cons y r => exact absurd (.inr ⟨by simpa using hh, by rw [hd]; simp⟩) hng0
            · exact .inl rfl
          have q0 : (q : Int) ≤ 31 := by omega
          clear hng0 hgood hbad hlast
          rcases hor with e31 | ⟨e31, eL⟩
          all_goals
            gi_wp2_with (refine ⟨trivial, ?_⟩; gi_at_call 42; refine (callsIn_wide.2 (HM.out _ (Below.refl _ _))).mono ?_; rintro e w1 ⟨he, hb1⟩; obtain ⟨g, rfl, hg, hng⟩ := (show ∃ g, e = _ ∧ _ ∧ _ from he); have HG := hidD hg; have HNG := hidD hng; clear hg hng; have HI1 := hidD (HI.out.below HJ.out hb1); have k1 := (HB.out.at HI1.out.st).c1; clear hb1 he)
            have HGX : Hid (g ≠ x) := by
              have a1 := HNG.out
              have a2 := HB.out.xv
              show g ≠ x
              omega
            gi_loopw [53] (fun p X => ∃ k : Nat, p = .int .i64 (k : Int) ∧ k ≤ q ∧ Hid (OnI v x J (itemsP D.n D.S ls) (((List.range q).map (entP (D.S leaf.toNat))).drop k ++ itemsP D.n D.S (ls.drop (i + 1))) X) ∧ Hid (RdB X (some ⟨g, 0, none⟩) 1024 (D.S leaf.toNat))) (fun p X => q - (ivX p).toNat)
            case atStart => exact ⟨0, rfl, by omega, hidD (by have := HI1.out; rw [HIT.out] at this; exact this), HG⟩
            case round =>
              obtain ⟨k, rfl, hk, HIk, HGk⟩ := hrel
              by_cases hkl : k < q
              · have e1 : decide ((k : Int) < (q : Int)) = true := decide_eq_true (by omega)
                have jk0 : (0 : Int) ≤ (k : Int) := by omega
                have jk1 : (k : Int) < (q : Int) := by omega
                have HE := hidD (entryIn_any g (D.S leaf.toNat) k m0 wr HGk.out (by omega) (HB.out.at HIk.out.st).m)
                have hdk := range_drop (entP (D.S leaf.toNat)) q k hkl
                have HDK := hidD hdk
                clear hdk
                cases hent : entP (D.S leaf.toNat) k with
                | none =>
                  rw [hent] at HE HDK
                  clear hent
                  gi_wp2_with (refine ⟨trivial, ?_⟩; gi_at_call 78; refine (callsIn_wide.2 HE.out).mono ?_; rintro e w2 ⟨he, hb2⟩; obtain rfl := (show e = .returned (.tuple #[.agg #[.string ⟨#[]⟩, .int .i64 0, .int .i64 0], .bool false]) from he); have HB2 := hidD (hb2.trans (((Below.refl _ w2).alloc (Nat.le_refl _) (.cells #[.string ⟨#[]⟩, .int .i64 0, .int .i64 0] 25)).mono hb2.size)); have HI2 := hidD (HIk.out.below HJ.out HB2.out); obtain ⟨pre, hJp, hcut⟩ := HI2.out.ex; rw [HDK.out, List.cons_append] at hcut; obtain ⟨fn, tmps, assign, body, hy, hR⟩ := HY.out pre none _ hJp (none_lt hcut); dsimp only [encE, zeroE] at hy; have HC := hidD hcut; have HRR := hidD hR; clear hcut hJp hR hb2 he)
                  refine HRR.out.mono ?_
                  rintro e W3 (⟨rfl, hJ3, hk3⟩ | ⟨rfl, hJx3⟩)
                  · gi_wp2
                    refine bodyPost_ret (results_none rfl _ _ _) rfl ?_
                    exact ⟨⟨_, rfl⟩, .inl ⟨_, HC.out.symm, hJ3⟩⟩
                  · gi_wp2
                    refine bodyPost_ret (results_none rfl _ _ _) rfl ?_
                    exact ⟨⟨_, rfl⟩, .inr ⟨_, by rw [HC.out]; exact List.prefix_refl _, hJx3⟩⟩
                | some en =>
                  rw [hent] at HE HDK
                  clear hent
                  gi_wp2_with (refine ⟨trivial, ?_⟩; gi_at_call 78; refine (callsIn_wide.2 HE.out).mono ?_; rintro e w2 ⟨he, hb2⟩; obtain rfl := (show e = .returned (.tuple #[.agg #[.string en.nm, .int .i64 en.hd, .int .i64 en.ln], .bool true]) from he); have HB2 := hidD (hb2.trans (((Below.refl _ w2).alloc (Nat.le_refl _) (.cells #[.string en.nm, .int .i64 en.hd, .int .i64 en.ln] 25)).mono hb2.size)); have HI2 := hidD (HIk.out.below HJ.out HB2.out); obtain ⟨pre, hJp, hcut⟩ := HI2.out.ex; rw [HDK.out, List.cons_append] at hcut; obtain ⟨fn, tmps, assign, body, hy, hR⟩ := HY.out pre (some en) _ hJp (some_lt hcut); dsimp only [encE, En.val] at hy; have HC := hidD hcut; have HRR := hidD hR; clear hcut hJp hR hb2 he)
                  refine HRR.out.mono ?_
                  rintro e W3 (⟨rfl, hJ3, hk3⟩ | ⟨rfl, hJx3⟩)
                  · have HN : Hid (OnI v x J (itemsP D.n D.S ls) (((List.range q).map (entP (D.S leaf.toNat))).drop (k + 1) ++ itemsP D.n D.S (ls.drop (i + 1))) W3) := ⟨HI2.out.st.kp hk3, pre ++ [some en], hJ3, by rw [HC.out, List.append_assoc]; rfl⟩
                    have HG3 := hidD (rd_kp (HGk.out.below HB2.out) hk3 HGX.out (by decide))
                    clear hk3 hJ3
                    gi_wp2
                    go_roundw
                    case rel => exact ⟨k + 1, by go_num, by omega, HN, HG3⟩
                    case measure => simp [ivX]; omega
                  · gi_wp2
                    refine bodyPost_ret (results_none rfl _ _ _) rfl ?_
                    exact ⟨⟨_, rfl⟩, .inr ⟨_, by rw [HC.out]; exact ⟨_, by rw [List.append_assoc]; rfl⟩, hJx3⟩⟩
              · have e1 : decide ((k : Int) < (q : Int)) = false := decide_eq_false (by omega)
                have hdk : ((List.range q).map (entP (D.S leaf.toNat))).drop k = [] := List.drop_eq_nil_of_le (by simp; omega)
                rw [hdk, List.nil_append] at HIk
                clear hdk HGk
                gi_wp2
                go_roundw
                case rel => exact ⟨i + 1, by go_num, by omega, HIk⟩
                case measure => simp [ivX]; omega
    · have d1 : decide ((i : Int) < (ls.length : Int)) = false := decide_eq_false (by omega)
      have e : ls.drop i = [] := List.drop_eq_nil_of_le (by omega)
      obtain ⟨pre, hJp, hcut⟩ := HI.out.ex
      rw [e, show itemsP D.n D.S [] = [] from rfl, show cutN ([] : List (Option En)) = [] from rfl, List.append_nil] at hcut
      have HC := hidD hcut
      have HP := hidD hJp
      clear hcut hJp hF
      gi_wp2
      go_end0
      exact ⟨⟨_, rfl⟩, .inl ⟨_, HC.out.symm, HP.out⟩⟩
end Go.Proofs.YtmjflbleobmjdaaGreatDoor
