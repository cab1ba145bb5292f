/-
  Layer 11: a record and those that it extends, one behind the other: the iterator.
-/
import Derived.Test.YtgkfnfilomjphaaDoorVsr
import Derived.RangeFuncNested
import Derived.RangeFuncBound
import Derived.RangeFuncCalls
import Derived.RangeFuncLeaves
import Derived.RangeFuncWrites
import Derived.Shelf.Abstract
import Derived.Shelf.RegionOpen
import Derived.OwnWalkIn
import Derived.TacticsInMore
import Derived.LoopNIn
import Derived.LoopIn
namespace Go.Proofs.YtgkfnfilomjphaaDoor
set_option linter.unusedVariables false
set_option linter.unusedSimpArgs false
open Go.ChangeShapes Go.WideShapes Go.ChangeAt Go.RowKit Go.Shelf
attribute [local go_sem] Oper.semAt_some
attribute [local go_sem ↓] ldY_seal stY_seal ldF_seal stF_seal

def upL (T : List Tt) : Nat → Int → List Int
  | 0, _ => []
  | f + 1, i => if i = 0 then [] else i :: upL T f (tyD T i).bs
/-- A record's place, and those of all that it extends. -/
def upA (T : List Tt) (i : Int) : List Int := upL T (i.toNat + 1) i
/-- Each record extends one that stands ahead of it, or none. -/
def Good (T : List Tt) : Prop := ∀ i, isB T i 10 = true → 0 ≤ (tyD T i).bs ∧ (tyD T i).bs < i ∧ ((tyD T i).bs = 0 ∨ isB T (tyD T i).bs 10 = true)
theorem isB_has {T : List Tt} {i f : Int} (h : isB T i f = true) : 0 ≤ i ∧ i < (T.length : Int) := by
  unfold isB hasB at h
  simp only [Bool.and_eq_true, decide_eq_true_eq] at h
  exact h.1
theorem isB_fm {T : List Tt} {i f : Int} (h : isB T i f = true) : (tyD T i).fm = f := by
  unfold isB at h
  simp only [Bool.and_eq_true, decide_eq_true_eq] at h
  exact h.2
theorem upL_any {T : List Tt} (hg : Good T) : ∀ (m : Nat) (i : Int), i.toNat ≤ m → (i = 0 ∨ isB T i 10 = true) → ∀ f g, i.toNat < f → i.toNat < g → upL T f i = upL T g i
  | m, i, hm, hi, 0, _, h, _ => by omega
  | m, i, hm, hi, _ + 1, 0, _, h => by omega
  | 0, i, hm, hi, f + 1, g + 1, _, _ => by
    have : i = 0 := by
      rcases hi with h | h
      · exact h
      · have := isB_has h; omega
    subst this
    simp [upL]
  | m + 1, i, hm, hi, f + 1, g + 1, h1, h2 => by
    simp only [upL]
    split
    · rfl
    · rename_i h0
      have hb := hi.resolve_left h0
      obtain ⟨b0, b1, b2⟩ := hg i hb
      rw [upL_any hg m (tyD T i).bs (by omega) b2 f g (by omega) (by omega)]
theorem upA_step {T : List Tt} (hg : Good T) {i : Int} (hb : isB T i 10 = true) (h0 : i ≠ 0) : upA T i = i :: upA T (tyD T i).bs := by
  obtain ⟨b0, b1, b2⟩ := hg i hb
  unfold upA
  rw [upL, if_neg h0]
  rw [upL_any hg _ _ (Nat.le_refl _) b2 i.toNat ((tyD T i).bs.toNat + 1) (by omega) (by omega)]
theorem upA_zero (T : List Tt) : upA T 0 = [] := by simp [upA, upL]
def KpU (n bt br : Nat) (W W' : World) : Prop := Below n W W' ∧ W'.heap[bt]? = W.heap[bt]? ∧ W'.heap[br]? = W.heap[br]?
theorem KpU.t {n bt br : Nat} {A B C : World} (h : KpU n bt br A B) (k : KpU n bt br B C) : KpU n bt br A C := ⟨h.1.trans k.1, k.2.1.trans h.2.1, k.2.2.trans h.2.2⟩
theorem KpU.b {n bt br N : Nat} (h1 : n ≤ N) (h2 : bt < N) (h3 : br < N) (W : World) (l : Nat) (o o' : Obj) (hl : N ≤ l) (ho : W.heap[l]? = some o) : KpU n bt br W (W.putObj l o') := by
  have hg := grownBy_putObj' W l o'
  exact ⟨⟨hg.os, hg.tape, hg.output, hg.size, fun k hk => World.putObj_heap_other (by omega)⟩, World.putObj_heap_other (by omega), World.putObj_heap_other (by omega)⟩
def ivOf : Value → Int
  | .int _ q => q
  | _ => 0
/-- What stands between two rounds. -/
def UpI (v : World) (bt br b : Nat) (i : Int) (J : List Int → World → Prop) (pre : List Int) (W : World) : Prop := Below v.heap.size v W ∧ BA W bt 3 #[.int .i64 i] ∧ BA W br 43 #[.pointer (some ⟨b, 0, none⟩)] ∧ J pre W
theorem UpI.next {v W W' : World} {bt br b : Nat} {i : Int} {J : List Int → World → Prop} {pre pre' : List Int} (h : UpI v bt br b i J pre W) (hk : KpU v.heap.size bt br W W') (hj : J pre' W') : UpI v bt br b i J pre' W' := ⟨h.1.trans hk.1, hk.2.1.trans h.2.1, hk.2.2.trans h.2.2.1, hj⟩
set_option maxRecDepth 100000 in
set_option maxHeartbeats 32000000 in
theorem up1_in (F : Fence) (n : Nat) (hf : F.fn 35) (hro : F.round = none) (hn : 1 ≤ n) (l₀ bt br b : Nat) (v : World) (c : Rc) (L T : List Tt) (A : List Int) (hr : RwR v b c L T A) (hg : Good T) (i : Int) (hi : i = 0 ∨ isB T i 10 = true) (J Jx : List Int → World → Prop)
    (hJ : ∀ s A B, J s A → A.grownBy B none → J s B)
    (hY : ∀ pre x W, isB T x 10 = true → J pre W → pre.length < (upA T i).length → YieldAt F (n - 1) Tryd.prog l₀ #[.int .i64 x] W fun e W' =>
      (e = .returned (.bool true) ∧ J (pre ++ [x]) W' ∧ KpU v.heap.size bt br W W') ∨ (e = .returned (.bool false) ∧ Jx (pre ++ [x]) W'))
    (W : World) (hb : Below v.heap.size v W) (hB : BA W bt 3 #[.int .i64 i]) (hB2 : BA W br 43 #[.pointer (some ⟨b, 0, none⟩)]) (h0 : J [] W) :
    CallsIn F n Tryd.prog 35 #[.func (.yield l₀) #[] #[], .pointer (some ⟨bt, 0, none⟩), .pointer (some ⟨br, 0, none⟩)] W fun e W' => (∃ v, e = .returned v) ∧
      ((∃ ys, ys = upA T i ∧ J ys W') ∨ (∃ pre, pre <+: upA T i ∧ Jx pre W')) := by
  have HY := hid_of hY
  have HG := hid_of hg
  have HI0 := hid_of hi
  have K : Hid (∀ X pre x, UpI v bt br b i J pre X → isB T x 10 = true → ∃ (g off n0 : Nat), x = (n0 : Int) ∧ n0 < T.length ∧ c.ty.a = some ⟨g, off, none⟩ ∧ X.cell? ⟨br, 0, none⟩ = some (.pointer (some ⟨b, 0, none⟩)) ∧ X.cell? ⟨b, 1, none⟩ = some (.slice c.ty.a T.length c.ty.c) ∧ X.cell? ⟨g, off + n0 * 7 + 3, none⟩ = some (.int .i64 (tyD T x).bs)) := hid_of fun X pre x hX hx => by
    obtain ⟨x0, x1⟩ := isB_has hx
    obtain ⟨n0, rfl⟩ : ∃ n0 : Nat, x = (n0 : Int) := ⟨x.toNat, by omega⟩
    have hn0 : n0 < T.length := by omega
    obtain ⟨g, off, hga, hgl, hc⟩ := (hr.ty.below hX.1).elem (fun _ => rfl) n0 hn0
    have c1 : X.cell? ⟨b, 1, none⟩ = some (.slice c.ty.a c.ty.n c.ty.c) := (hr.bx.below hX.1).cell 1
    rw [hr.ty.len] at c1
    exact ⟨g, off, n0, rfl, hn0, hga, hX.2.2.1.cell 0, c1, by rw [tyD_at hn0]; exact hc 3 _ rfl⟩
  have H0 := hid_of (show UpI v bt br b i J [] W from ⟨hb, hB, hB2, h0⟩)
  have c0 : W.cell? ⟨bt, 0, none⟩ = some (.int .i64 i) := hB.cell 0
  obtain ⟨ta, hta⟩ : ∃ ta, ta = c.ty.a := ⟨_, rfl⟩
  rw [← hta] at K
  clear hY hJ hr hb hB hB2 h0 hg hi hta
  refine callsIn_of_wp Tryd.func35 rfl hf ?_ hro
  simp only [Tryd.ntmps35, List.size_toArray, List.length_cons, List.length_nil, Nat.reduceAdd, Nat.reduceSub, Array.replicate_succ, Array.replicate_zero, List.push_toArray, List.append_toArray, List.nil_append, List.cons_append]
  gi_wp2
  gi_loopw [4] (fun p wr => ∃ (at_ : Int) (pre : List Int), p = .int .i64 at_ ∧ (at_ = 0 ∨ isB T at_ 10 = true) ∧ Hid (upA T i = pre ++ upA T at_ ∧ UpI v bt br b i J pre wr)) (fun p wr => (ivOf p).toNat)
  case atStart => exact ⟨i, [], rfl, HI0.out, rfl, H0.out⟩
  case round =>
    obtain ⟨at_, pre, rfl, ha, HI⟩ := hrel
    by_cases hz : at_ = 0
    · subst hz
      have HE : Hid (upA T i = pre) := hid_of (by rw [HI.out.1, upA_zero, List.append_nil])
      gi_wp2
      refine ⟨(fun _ h => by cases h), ?_⟩
      gi_wp2
      go_end0
      exact ⟨⟨_, rfl⟩, .inl ⟨pre, HE.out.symm, HI.out.2.2.2.2⟩⟩
    · have hb := ha.resolve_left hz
      obtain ⟨g, off, n0, rfl, hn0, hga, k1, k2, k3⟩ := K.out wr pre _ HI.out.2 hb
      have e1 : ((n0 : Int) != 0) = true := by simpa using hz
      have e2 : decide ((n0 : Int) = 0) = false := decide_eq_false hz
      have hst := upA_step HG.out hb hz
      have hgd := HG.out _ hb
      have hlen : pre.length < (upA T i).length := by rw [HI.out.1, hst]; simp
      obtain ⟨fn, tmps, assign, body, hy, hR⟩ := HY.out pre (n0 : Int) wr hb HI.out.2.2.2.2 hlen
      have ST := hid_of hst
      have HZ := hid_of hz
      have HK := hid_of (And.intro hb hn0)
      have GD := hid_of hgd
      clear hst hgd hlen hz ha k1 k2 k3 hb hn0 hga
      gi_wp2
      refine hR.mono ?_
      rintro e W3 (⟨rfl, hJ3, hk3⟩ | ⟨rfl, hJx3⟩)
      · have H3 := hid_of (HI.out.2.next hk3 hJ3)
        obtain ⟨g, off, n1, hn1, hl1, hga, k1, k2, k3⟩ := K.out W3 _ _ H3.out HK.out.1
        obtain rfl : n0 = n1 := by omega
        have j0 : (0 : Int) ≤ (n0 : Int) := by omega
        have j1 : (n0 : Int) < (T.length : Int) := by omega
        rw [hga] at k2
        clear hJ3 hk3 hga hn1
        gi_wp2
        go_roundw
        case rel => exact ⟨(tyD T (n0 : Int)).bs, pre ++ [(n0 : Int)], rfl, GD.out.2.2, by rw [HI.out.1, ST.out, List.append_assoc]; rfl, H3.out⟩
        case measure => have := GD.out; simp [ivOf]; omega
      · gi_wp2
        go_end0
        exact ⟨⟨_, rfl⟩, .inr ⟨_, ⟨upA T (tyD T (n0 : Int)).bs, by rw [HI.out.1, ST.out, List.append_assoc]; rfl⟩, hJx3⟩⟩
/-- A record of the row. -/
abbrev Rcd (T : List Tt) := { x : Int // isB T x 10 = true }
theorem up1s_in (F : Fence) (n : Nat) (hf : F.fn 35) (hro : F.round = none) (hn : 1 ≤ n) (l₀ bt br b : Nat) (v : World) (c : Rc) (L T : List Tt) (A : List Int) (hr : RwR v b c L T A) (hg : Good T) (i : Int) (hi : i = 0 ∨ isB T i 10 = true) (J Jx : List (Rcd T) → World → Prop)
    (hJ : ∀ s A B, J s A → A.grownBy B none → J s B)
    (hY : ∀ pre (x : Rcd T) W, J pre W → pre.length < (upA T i).length → YieldAt F (n - 1) Tryd.prog l₀ #[.int .i64 x.1] W fun e W' =>
      (e = .returned (.bool true) ∧ J (pre ++ [x]) W' ∧ KpU v.heap.size bt br W W') ∨ (e = .returned (.bool false) ∧ Jx (pre ++ [x]) W'))
    (W : World) (hb : Below v.heap.size v W) (hB : BA W bt 3 #[.int .i64 i]) (hB2 : BA W br 43 #[.pointer (some ⟨b, 0, none⟩)]) (h0 : J [] W) :
    CallsIn F n Tryd.prog 35 #[.func (.yield l₀) #[] #[], .pointer (some ⟨bt, 0, none⟩), .pointer (some ⟨br, 0, none⟩)] W fun e W' => (∃ v, e = .returned v) ∧
      ((∃ ys : List (Rcd T), ys.map (·.1) = upA T i ∧ J ys W') ∨ (∃ pre : List (Rcd T), pre.map (·.1) <+: upA T i ∧ Jx pre W')) := by
  refine (up1_in F n hf hro hn l₀ bt br b v c L T A hr hg i hi (fun p W => ∃ q : List (Rcd T), q.map (·.1) = p ∧ J q W) (fun p W => ∃ q : List (Rcd T), q.map (·.1) = p ∧ Jx q W) ?_ ?_ W hb hB hB2 ⟨[], rfl, h0⟩).mono ?_
  · rintro s A B ⟨q, h1, h2⟩ hg
    exact ⟨q, h1, hJ _ _ _ h2 hg⟩
  · rintro pre x W hx ⟨q, rfl, hj⟩ hlt
    obtain ⟨fn, tmps, assign, body, hy, hR⟩ := hY q ⟨x, hx⟩ W hj (by simpa using hlt)
    refine ⟨fn, tmps, assign, body, hy, hR.mono ?_⟩
    rintro e W' (⟨h1, h2, h3⟩ | ⟨h1, h2⟩)
    · exact .inl ⟨h1, ⟨_, by simp, h2⟩, h3⟩
    · exact .inr ⟨h1, ⟨_, by simp, h2⟩⟩
  · rintro e W' ⟨h1, ⟨ys, h2, q, h3, h4⟩ | ⟨pre, h2, q, h3, h4⟩⟩
    · exact ⟨h1, .inl ⟨q, h3.trans h2, h4⟩⟩
    · exact ⟨h1, .inr ⟨q, h3 ▸ h2, h4⟩⟩
theorem upFrom_in (n : Nat) (w : World) (b : Nat) (i : Int) : CallsIn Fence.wide n Tryd.prog 18 #[.pointer (some ⟨b, 0, none⟩), .int .i64 i] w fun e w' => e = .returned (.func (.func 35) #[] #[.pointer (some ⟨w.heap.size + 1, 0, none⟩), .pointer (some ⟨w.heap.size, 0, none⟩)]) ∧ w' = (w.alloc (.cells #[.pointer (some ⟨b, 0, none⟩)] 43)).alloc (.cells #[.int .i64 i] 3) := by
  refine callsIn_of_wp Tryd.func18 rfl trivial ?_ rfl
  simp only [Tryd.ntmps18, List.size_toArray, List.length_cons, List.length_nil, Nat.reduceAdd, Nat.reduceSub, Array.replicate_succ, Array.replicate_zero, List.push_toArray, List.append_toArray, List.nil_append, List.cons_append]
  gi_wp2
  go_ret
  exact ⟨rfl, rfl⟩
end Go.Proofs.YtgkfnfilomjphaaDoor
