/-
  Layer 13: what a module does not export makes no difference: the law's walk.
  Layer 13: modules, constants, variables and procedures that came in, opened.
  Proved: for every module, constant, variable and procedure the law SymHides returns true, where the table of sizes holds what its initialiser lays: a module with a constant, a variable and a procedure more that are not exported shows the same symbols, with the same answer and the same key. Condition: the inputs hold no ring (a slice of expressions or statements that holds itself).
-/
import Derived.Test.YtcppgpcgbggdcaaDoorMYtd
import Derived.Test.YtcppgpcgbggdcaaDoorYow
import Derived.Test.YtcppgpcgbggdcaaDoorYky
import Derived.Deep.CutBlock
import Derived.Deep.CutRange
namespace Go.Proofs.YtcppgpcgbggdcaaDoor
set_option linter.unusedVariables false
set_option linter.unusedSimpArgs false
open Go.ChangeShapes Go.WideShapes Go.ChangeAt Go.RowKit
attribute [local go_sem ↓] ldV_seal stV_seal ldY_seal stY_seal ldP_seal stP_seal ldW_seal stW_seal ldX_seal stX_seal ldM_seal stM_seal ldC_seal stC_seal ldS_seal stS_seal appN_seal mkN_seal

theorem hide_ofO (nm : ByteArray) (T : List Tz) (c : Cn) (v : Wv) (p : Px) (C : List Cn) (V : List Wv) (P : List Px) : ofO nm T ({ c with ex := false } :: C) ({ v with ex := false } :: V) ({ p with ex := false } :: P) = ofO nm T C V P := by simp [ofO, shO, varO, prcO]
/-- The boxes of what came in. -/
structure HX (w X : World) (m : Mm) (c : Cn) (v : Wv) (p : Px) : Prop where
  b0 : BA X w.heap.size 51 (mmE m)
  b1 : BA X (w.heap.size + 1) 53 (cEnc c)
  b2 : BA X (w.heap.size + 2) 55 (wvE v)
  b3 : BA X (w.heap.size + 3) 58 (pxE p)
  be : Below w.heap.size w X
theorem HX.below {w X Y : World} {m : Mm} {c : Cn} {v : Wv} {p : Px} (h : HX w X m c v p) (hb : Below X.heap.size X Y) : HX w Y m c v p := ⟨h.b0.below hb, h.b1.below hb, h.b2.below hb, h.b3.below hb, h.be.trans (hb.mono h.be.size)⟩
theorem HX.start (w : World) (m : Mm) (c : Cn) (v : Wv) (p : Px) : HX w ((((w.alloc (.cells #[.string m.nm, .bool m.sy, .slice m.im.a m.im.n m.im.c, .slice m.sm.a m.sm.n m.sm.c, .slice m.ty.a m.ty.n m.ty.c, .slice m.st.a m.st.n m.st.c, .slice m.cs.a m.cs.n m.cs.c, .slice m.vs.a m.vs.n m.vs.c, .slice m.ps.a m.ps.n m.ps.c, .slice m.it.a m.it.n m.it.c] 51)).alloc (.cells #[.string c.nm, .int .i64 c.ty, .int .i64 c.n, .string c.s, .bool c.ex] 53)).alloc (.cells #[.string v.nm, .int .i64 v.ty, .bool v.ex, .bool v.rf] 55)).alloc (.cells #[.string p.nm, .bool p.ex, .int .i64 p.np, .slice p.vl.a p.vl.n p.vl.c, .int .i64 p.rs, .slice p.bd.a p.bd.n p.bd.c, .slice p.ve.a p.ve.n p.ve.c] 58)) m c v p := by
  have k1 := BA.new w 51 (mmE m)
  have k2 := BA.new (w.alloc (.cells (mmE m) 51)) 53 (cEnc c)
  have k3 := BA.new ((w.alloc (.cells (mmE m) 51)).alloc (.cells (cEnc c) 53)) 55 (wvE v)
  have k4 := BA.new (((w.alloc (.cells (mmE m) 51)).alloc (.cells (cEnc c) 53)).alloc (.cells (wvE v) 55)) 58 (pxE p)
  rw [show (w.alloc (.cells (mmE m) 51)).heap.size = w.heap.size + 1 by simp] at k2
  rw [show ((w.alloc (.cells (mmE m) 51)).alloc (.cells (cEnc c) 53)).heap.size = w.heap.size + 2 by simp] at k3
  rw [show (((w.alloc (.cells (mmE m) 51)).alloc (.cells (cEnc c) 53)).alloc (.cells (wvE v) 55)).heap.size = w.heap.size + 3 by simp] at k4
  have a1 : ∀ (X : World) (o : Obj), Below X.heap.size X (X.alloc o) := fun X o => (Below.refl _ _).alloc (Nat.le_refl _) o
  exact ⟨((k1.below (a1 _ _)).below (a1 _ _)).below (a1 _ _), (k2.below (a1 _ _)).below (a1 _ _), k3.below (a1 _ _), k4, by go_grown⟩
theorem SyAt.box {X Y : World} {B g : Nat} {c : Sc} {o : Sy} {cs : Array Value} {P : Nat → Prop} (h : SyAt X B c o) (hb : BA X g 51 cs) (t : Tq X Y P) (hp : ∀ k, P k → k < B ∨ k = g) : SyAt Y B c o := by
  obtain ⟨l, h1, h2, h3⟩ := h.ps
  have r : ∀ {E : TypeId} {k : Nat} {v : Value} {n : Nat} {xs : List Value}, 51 ≠ E → X.ownsRow B E k v n xs → Y.ownsRow B E k v n xs := fun hne ho => t.own ho fun q hq e => by
    rcases hp q e with e | e
    · have := own_lo ho q hq; omega
    · exact own_boxH ho hb hne hq e
  exact ⟨h.nm, r (by decide) h.cs, r (by decide) h.vs, l, h1, r (by decide) h2, fun p hq => r (by decide) (h3 p hq)⟩
theorem HH.start {w Z : World} {g1 g2 : Nat} {m : Mm} {c : Cn} {v : Wv} {p : Px} {sc : Sc} {q : Option Sy} {T : List Tz} {C : List Cn} {V : List Wv} {P : List Px} (h : MmR w m T C V P) (hx : HX w Z m c v p) (s1 : BA Z g1 26 sc.cells) (bm : BA Z g2 51 (mmE m)) (lt : w.heap.size + 3 < g1 ∧ g1 < g2) (sy : (q = none → sc = Sc.zero) ∧ ∀ o, q = some o → rightP o = true ∧ ∃ B, w.heap.size + 3 < B ∧ SyAt Z B sc o) : HH w (((Z.setCell ⟨w.heap.size + 1, 4, none⟩ (.bool false)).setCell ⟨w.heap.size + 2, 2, none⟩ (.bool false)).setCell ⟨w.heap.size + 3, 1, none⟩ (.bool false)) g1 g2 m m { c with ex := false } { v with ex := false } { p with ex := false } sc q T C V P := by
  have t1 : Tq Z (Z.setCell ⟨w.heap.size + 1, 4, none⟩ (.bool false)) (fun k => k = w.heap.size + 1) := Tq.set rfl
  have t2 : Tq (Z.setCell ⟨w.heap.size + 1, 4, none⟩ (.bool false)) ((Z.setCell ⟨w.heap.size + 1, 4, none⟩ (.bool false)).setCell ⟨w.heap.size + 2, 2, none⟩ (.bool false)) (fun k => k = w.heap.size + 2) := Tq.set rfl
  have t3 : Tq ((Z.setCell ⟨w.heap.size + 1, 4, none⟩ (.bool false)).setCell ⟨w.heap.size + 2, 2, none⟩ (.bool false)) (((Z.setCell ⟨w.heap.size + 1, 4, none⟩ (.bool false)).setCell ⟨w.heap.size + 2, 2, none⟩ (.bool false)).setCell ⟨w.heap.size + 3, 1, none⟩ (.bool false)) (fun k => k = w.heap.size + 3) := Tq.set rfl
  have t : Tq Z _ (fun k => k = w.heap.size + 1 ∨ k = w.heap.size + 2 ∨ k = w.heap.size + 3) := ((t1.mono fun k _ e => .inl e).trans (t2.mono fun k _ e => .inr (.inl e))).trans (t3.mono fun k _ e => .inr (.inr e))
  have bw : ∀ Y, Tq (((Z.setCell ⟨w.heap.size + 1, 4, none⟩ (.bool false)).setCell ⟨w.heap.size + 2, 2, none⟩ (.bool false)).setCell ⟨w.heap.size + 3, 1, none⟩ (.bool false)) Y (fun k => k = g2) → Tq Z Y (fun k => k = w.heap.size + 1 ∨ k = w.heap.size + 2 ∨ k = w.heap.size + 3 ∨ k = g2) := fun Y tY => (t.mono fun k _ e => by omega).trans (tY.mono fun k _ e => .inr (.inr (.inr e)))
  refine ⟨hx.b0.tq t (by omega), ((hx.b1.set (.bool false)).tq t2 (by omega)).tq t3 (by omega), ((hx.b2.tq t1 (by omega)).set (.bool false)).tq t3 (by omega), ((hx.b3.tq t1 (by omega)).tq t2 (by omega)).set (.bool false), s1.tq t (by omega), bm.tq t (by omega), below_tqH hx.be t (fun k hk => by omega), lt, fun Y tY => h.below (below_tqH hx.be (bw Y tY) (fun k hk => by omega)), sy.1, fun o ho => ?_⟩
  obtain ⟨r, B, hB, hs⟩ := sy.2 o ho
  exact ⟨r, B, fun Y tY => hs.box bm (bw Y tY) (fun k hk => by omega)⟩
/-- Both answers. -/
structure HZ (w X : World) (g1 g3 : Nat) (sc s2 : Sc) (o : Sy) : Prop where
  a1 : BA X g1 26 sc.cells
  a2 : BA X g3 26 s2.cells
  be : Below w.heap.size w X
  r1 : ∃ l, SyR X sc o l
  r2 : ∃ l, SyR X s2 o l
theorem HZ.below {w X Y : World} {g1 g3 : Nat} {sc s2 : Sc} {o : Sy} (h : HZ w X g1 g3 sc s2 o) (hb : Below X.heap.size X Y) : HZ w Y g1 g3 sc s2 o := by
  obtain ⟨l, h1⟩ := h.r1
  obtain ⟨l2, h2⟩ := h.r2
  exact ⟨h.a1.below hb, h.a2.below hb, h.be.trans (hb.mono h.be.size), ⟨l, h1.below hb⟩, ⟨l2, h2.below hb⟩⟩
def zeroY : Sy := ⟨⟨#[]⟩, [], [], []⟩
theorem SyAt.rdy {X : World} {B : Nat} {c : Sc} {o : Sy} (h : SyAt X B c o) (hi : In o) : ∃ l, SyR X c o l := by
  obtain ⟨l, h1, h2, h3⟩ := h.ps
  have c4 : l.length = o.ps.length := by rw [← h1, List.length_map]
  have hp : ∀ x ∈ l, x.1 ∈ o.ps := fun x hx => by rw [← h1]; exact List.mem_map.2 ⟨x, hx, rfl⟩
  have k1 := hi.cl
  have k2 := hi.vl
  have k3 := hi.pl
  have k4 := hi.nm
  exact ⟨l, h.nm, own_rdv h.cs (by omega), own_rdv h.vs (by omega), h1, own_rdv h2 (by omega), fun p hq => own_rdv (h3 p hq) (by have := (hi.ps _ (hp p hq)).2.1; omega), by omega, fun x hx => by have := (hi.cs x hx).1; omega, fun x hx => by have := (hi.vs x hx).1; omega, fun x hx => by have := (hi.ps _ (hp x hx)).1; omega⟩
def kvI (o : Sy) : Int := if rightP o then keyI o else 0
def keE (o : Sy) : Int := if rightP o then 0 else 130
theorem key_two (w : World) (hv : Vs w) (c : Sc) (o : Sy) (h : ∃ l, SyR w c o l) : Calls Tryd.prog 13 #[.agg c.cells] w fun e w' => e = .returned (.tuple #[.int .u32 (kvI o), .int .i64 (keE o)]) ∧ Below w.heap.size w w' := by
  obtain ⟨l, hl⟩ := h
  refine (key_any w hv c o l hl).mono fun e w' hh => ⟨?_, hh.2⟩
  rw [hh.1]
  unfold kvI keE
  cases rightP o <;> rfl
set_option maxHeartbeats 40000000 in
set_option maxRecDepth 20000 in
theorem hides_of (w : World) (hv : Vs w) (m : Mm) (T : List Tz) (C : List Cn) (V : List Wv) (P : List Px) (c : Cn) (v : Wv) (p : Px) (h : MmR w m T C V P) (hp : RdV w 4 p.vl p.vs.length (flat wvE p.vs) ∧ p.vl.n ≤ p.vl.c) (n1 : c.nm.size ≤ 140737488355328) (n2 : v.nm.size ≤ 140737488355328) (n3 : p.nm.size ≤ 140737488355328) (m1 : C.length * 56 ≤ 140737488351232) (m2 : V.length * 32 ≤ 140737488351232) (m3 : P.length * 112 ≤ 140737488351232) : Calls Tryd.prog 7 #[.agg #[.string m.nm, .bool m.sy, .slice m.im.a m.im.n m.im.c, .slice m.sm.a m.sm.n m.sm.c, .slice m.ty.a m.ty.n m.ty.c, .slice m.st.a m.st.n m.st.c, .slice m.cs.a m.cs.n m.cs.c, .slice m.vs.a m.vs.n m.vs.c, .slice m.ps.a m.ps.n m.ps.c, .slice m.it.a m.it.n m.it.c], .agg #[.string c.nm, .int .i64 c.ty, .int .i64 c.n, .string c.s, .bool c.ex], .agg #[.string v.nm, .int .i64 v.ty, .bool v.ex, .bool v.rf], .agg #[.string p.nm, .bool p.ex, .int .i64 p.np, .slice p.vl.a p.vl.n p.vl.c, .int .i64 p.rs, .slice p.bd.a p.bd.n p.bd.c, .slice p.ve.a p.ve.n p.ve.c]] w fun e w' => e = .returned (.bool true) ∧ Below w.heap.size w w' := by
  have X0 := hid_of (HX.start w m c v p)
  have HM := hid_of h
  have HP := hid_of hp
  have VS := hid_of hv
  have N := hid_of (And.intro n1 (And.intro n2 n3))
  have M := hid_of (And.intro m1 (And.intro m2 m3))
  clear h hp hv n1 n2 n3 m1 m2 m3
  have SH : Hid (∀ X, HX w X m c v p → Calls Tryd.prog 8 #[] X fun e Y => e = .returned (.bool true) ∧ Hid (HX w Y m c v p) ∧ (ldT 51 ⟨w.heap.size, 0, none⟩).run Tryd.prog Y = .ok (.agg #[.string m.nm, .bool m.sy, .slice m.im.a m.im.n m.im.c, .slice m.sm.a m.sm.n m.sm.c, .slice m.ty.a m.ty.n m.ty.c, .slice m.st.a m.st.n m.st.c, .slice m.cs.a m.cs.n m.cs.c, .slice m.vs.a m.vs.n m.vs.c, .slice m.ps.a m.ps.n m.ps.c, .slice m.it.a m.it.n m.it.c]) Y) := hid_of fun X hX => (shown_any X (VS.out.below hX.be VS.out.big)).mono fun e Y hh => ⟨hh.1, hX.below hh.2, ldT_run (hX.below hh.2).b0 Tryd.underlying51 rfl (by kernel_rfl)⟩
  have O1 : Hid (∀ X, HX w X m c v p → Calls Tryd.prog 20 #[.agg #[.string m.nm, .bool m.sy, .slice m.im.a m.im.n m.im.c, .slice m.sm.a m.sm.n m.sm.c, .slice m.ty.a m.ty.n m.ty.c, .slice m.st.a m.st.n m.st.c, .slice m.cs.a m.cs.n m.cs.c, .slice m.vs.a m.vs.n m.vs.c, .slice m.ps.a m.ps.n m.ps.c, .slice m.it.a m.it.n m.it.c]] X fun e Y => ∃ (sc : Sc) (Z1 Z2 : World), e = .returned (.tuple #[.agg #[.string sc.nm, .slice sc.cs.a sc.cs.n sc.cs.c, .slice sc.vs.a sc.vs.n sc.vs.c, .slice sc.ps.a sc.ps.n sc.ps.c], .int .i64 (ofE (ofO m.nm T C V P))]) ∧ (stT 26 ⟨Y.heap.size, 0, none⟩ (.agg #[.string sc.nm, .slice sc.cs.a sc.cs.n sc.cs.c, .slice sc.vs.a sc.vs.n sc.vs.c, .slice sc.ps.a sc.ps.n sc.ps.c])).run Tryd.prog (Y.alloc (.cells #[.string ⟨#[]⟩, .slice none 0 0, .slice none 0 0, .slice none 0 0] 26)) = .ok () Z1 ∧ (ldT 51 ⟨w.heap.size, 0, none⟩).run Tryd.prog Z1 = .ok (.agg #[.string m.nm, .bool m.sy, .slice m.im.a m.im.n m.im.c, .slice m.sm.a m.sm.n m.sm.c, .slice m.ty.a m.ty.n m.ty.c, .slice m.st.a m.st.n m.st.c, .slice m.cs.a m.cs.n m.cs.c, .slice m.vs.a m.vs.n m.vs.c, .slice m.ps.a m.ps.n m.ps.c, .slice m.it.a m.it.n m.it.c]) Z1 ∧ (stT 51 ⟨Z1.heap.size, 0, none⟩ (.agg #[.string m.nm, .bool m.sy, .slice m.im.a m.im.n m.im.c, .slice m.sm.a m.sm.n m.sm.c, .slice m.ty.a m.ty.n m.ty.c, .slice m.st.a m.st.n m.st.c, .slice m.cs.a m.cs.n m.cs.c, .slice m.vs.a m.vs.n m.vs.c, .slice m.ps.a m.ps.n m.ps.c, .slice m.it.a m.it.n m.it.c])).run Tryd.prog (Z1.alloc (.cells #[.string ⟨#[]⟩, .bool false, .slice none 0 0, .slice none 0 0, .slice none 0 0, .slice none 0 0, .slice none 0 0, .slice none 0 0, .slice none 0 0, .slice none 0 0] 51)) = .ok () Z2 ∧ (Z2.cell? ⟨w.heap.size + 1, 4, none⟩ = some (.bool c.ex) ∧ Z2.frozen? ⟨w.heap.size + 1, 4, none⟩ = false) ∧ (Z2.cell? ⟨w.heap.size + 2, 2, none⟩ = some (.bool v.ex) ∧ Z2.frozen? ⟨w.heap.size + 2, 2, none⟩ = false) ∧ (Z2.cell? ⟨w.heap.size + 3, 1, none⟩ = some (.bool p.ex) ∧ Z2.frozen? ⟨w.heap.size + 3, 1, none⟩ = false) ∧ Hid (∃ q, q = ofO m.nm T C V P ∧ HH w (((Z2.setCell ⟨w.heap.size + 1, 4, none⟩ (.bool false)).setCell ⟨w.heap.size + 2, 2, none⟩ (.bool false)).setCell ⟨w.heap.size + 3, 1, none⟩ (.bool false)) Y.heap.size Z1.heap.size m m { c with ex := false } { v with ex := false } { p with ex := false } sc q T C V P)) := hid_of fun X hX => (of_any X (VS.out.below hX.be VS.out.big) m T C V P (HM.out.below hX.be)).mono fun e Y hh => by
    obtain ⟨sc, h1, h2, h3, h4⟩ := hh
    obtain ⟨Z1, z1, z2, z3⟩ := stT_run (w := Y.alloc (.cells #[.string ⟨#[]⟩, .slice none 0 0, .slice none 0 0, .slice none 0 0] 26)) sc.cells (BA.new Y _ _) rfl (by kernel_rfl) (sc_one _)
    have bZ : Below Y.heap.size Y Z1 := ((Below.refl _ _).alloc (Nat.le_refl _) _).trans (z3.bel (by simp) (Nat.le_refl _))
    obtain ⟨Z2, y1, y2, y3⟩ := stT_run (w := Z1.alloc (.cells #[.string ⟨#[]⟩, .bool false, .slice none 0 0, .slice none 0 0, .slice none 0 0, .slice none 0 0, .slice none 0 0, .slice none 0 0, .slice none 0 0, .slice none 0 0] 51)) (mmE m) (BA.new Z1 _ _) rfl (by kernel_rfl) (mm_one _)
    have bZ2 : Below Z1.heap.size Z1 Z2 := ((Below.refl _ _).alloc (Nat.le_refl _) _).trans (y3.bel (by simp) (Nat.le_refl _))
    have q1 := hX.below (h2.trans (bZ.mono h2.size))
    have q2 := q1.below bZ2
    have hsz := hX.b3.lt
    have hs2 := h2.size
    have hs3 := z2.lt
    refine ⟨sc, Z1, Z2, h1, z1, ldT_run q1.b0 Tryd.underlying51 rfl (by kernel_rfl), y1, ⟨q2.b1.cell 4, q2.b1.fz 4⟩, ⟨q2.b2.cell 2, q2.b2.fz 2⟩, ⟨q2.b3.cell 1, q2.b3.fz 1⟩, hid_of ⟨_, rfl, HH.start HM.out q2 (z2.below bZ2) y2 ⟨by omega, hs3⟩ ⟨h3, fun o ho => ?_⟩⟩⟩
    obtain ⟨r, B, hB, hs⟩ := h4 o ho
    exact ⟨r, B, by omega, (hs.below bZ).below bZ2⟩
  have e1 : (ofE (ofO m.nm T C V P) == ofE (ofO m.nm T C V P)) = true := by simp
  have HO := hid_of (hide_ofO m.nm T c v p C V P)
  have QE : Hid (∃ q0, q0 = ofO m.nm T C V P) := hid_of ⟨_, rfl⟩
  generalize hq : ofO m.nm T C V P = q0 at *
  go_enter Tryd.func7, Tryd.ntmps7
  go_upto_region 7 with (first
    | (go_at_call 20; refine (O1.out _ X1.out).mono ?_; rintro e w2 ⟨sc, Z1, Z2, rfl, z1, lm2, z2, ⟨k1, f1⟩, ⟨k2, f2⟩, ⟨k3, f3⟩, HQ⟩)
    | (go_at_call 8; refine (SH.out _ X0.out).mono ?_; rintro e w1 ⟨rfl, X1, lm⟩))
  obtain ⟨q, hq0, H0⟩ := HQ.out
  have H0 := hid_of H0
  have HQ0 := hid_of hq0
  generalize (((Z2.setCell ⟨w.heap.size + 1, 4, none⟩ (.bool false)).setCell ⟨w.heap.size + 2, 2, none⟩ (.bool false)).setCell ⟨w.heap.size + 3, 1, none⟩ (.bool false)) = Z5 at H0 ⊢
  generalize w2.heap.size = g1 at H0 ⊢
  generalize Z1.heap.size = g2 at H0 ⊢
  clear hq0 HQ z1 z2 lm lm2 k1 k2 k3 f1 f2 f3 O1 SH X0 X1 hq QE
  have w6 : IntKind.i64.wrap ((m.cs.n : Int) + 1) = (m.cs.n : Int) + 1 := by have := HM.out.cs.len; have := HM.out.cl; rw [IntWalk.i64_left, IntWalk.wrap64_in] <;> omega
  have w7 : IntKind.i64.wrap ((m.vs.n : Int) + 1) = (m.vs.n : Int) + 1 := by have := HM.out.vs.len; have := HM.out.vl; rw [IntWalk.i64_left, IntWalk.wrap64_in] <;> omega
  have w8 : IntKind.i64.wrap ((m.ps.n : Int) + 1) = (m.ps.n : Int) + 1 := by have := HM.out.ps.len; have := HM.out.pl; rw [IntWalk.i64_left, IntWalk.wrap64_in] <;> omega
  go_cut [] from 29 to 40 (fun X => ∃ s6 : Sl, Hid (HH w X g1 g2 m { m with cs := s6 } { c with ex := false } { v with ex := false } { p with ex := false } sc q T ({ c with ex := false } :: C) V P))
  case first =>
    obtain ⟨kX, lX, ⟨Y1, Y2, Y3, s1, s2, a1, a2, a3, b1, b2, b3, b4, ⟨b5, b6⟩, HA⟩, ⟨Z1, Z2, Z3, t1, t2, d1, d2, d3, q1, q2, q3, ⟨q5, q6⟩, HB⟩⟩ := H0.out.cs HM.out.cs M.out.1 N.out.1
    simp only [cEnc] at lX a2 b2 b4 d1 d2 q1
    clear H0 HO VS HP e1
    go_region
    all_goals
      go_wp2_with fail
      go_meet
      first | exact ⟨s2, HA⟩ | exact ⟨t2, HB⟩
  case rest =>
    obtain ⟨s6, H1⟩ := hcut
    clear H0
    go_upto_region 8 with fail
    go_cut [] from 41 to 52 (fun X => ∃ s7 : Sl, Hid (HH w X g1 g2 m { m with cs := s6, vs := s7 } { c with ex := false } { v with ex := false } { p with ex := false } sc q T ({ c with ex := false } :: C) ({ v with ex := false } :: V) P))
    case first =>
      obtain ⟨kX, lX, ⟨Y1, Y2, Y3, s1, s2, a1, a2, a3, b1, b2, b3, b4, ⟨b5, b6⟩, HA⟩, ⟨Z1, Z2, Z3, t1, t2, d1, d2, d3, q1, q2, q3, ⟨q5, q6⟩, HB⟩⟩ := H1.out.vs HM.out.vs M.out.2.1 N.out.2.1
      simp only [wvE] at lX a2 b2 b4 d1 d2 q1
      clear H1 HO VS HP e1
      go_region
      all_goals
        go_wp2_with fail
        go_meet
        first | exact ⟨s2, HA⟩ | exact ⟨t2, HB⟩
    case rest =>
      obtain ⟨s7, H2⟩ := hcut
      clear H1
      go_upto_region 9 with fail
      go_cut [] from 53 to 64 (fun X => ∃ s8 : Sl, Hid (HH w X g1 g2 m { m with cs := s6, vs := s7, ps := s8 } { c with ex := false } { v with ex := false } { p with ex := false } sc q T ({ c with ex := false } :: C) ({ v with ex := false } :: V) ({ p with ex := false } :: P)))
      case first =>
        obtain ⟨kX, lX, ⟨Y1, Y2, Y3, s1, s2, a1, a2, a3, b1, b2, b3, b4, ⟨b5, b6⟩, HA⟩, ⟨Z1, Z2, Z3, t1, t2, d1, d2, d3, q1, q2, q3, ⟨q5, q6⟩, HB⟩⟩ := H2.out.ps HM.out.ps M.out.2.2 N.out.2.2 HP.out
        simp only [pxE] at lX a2 b2 b4 d1 d2 q1
        clear H2 HO VS HP e1
        go_region
        all_goals
          go_wp2_with fail
          go_meet
          first | exact ⟨s2, HA⟩ | exact ⟨t2, HB⟩
      case rest =>
        obtain ⟨s8, H3⟩ := hcut
        clear H2
        have lm : (ldT 51 ⟨g2, 0, none⟩).run Tryd.prog wc = .ok (.agg #[.string m.nm, .bool m.sy, .slice m.im.a m.im.n m.im.c, .slice m.sm.a m.sm.n m.sm.c, .slice m.ty.a m.ty.n m.ty.c, .slice m.st.a m.st.n m.st.c, .slice s6.a s6.n s6.c, .slice s7.a s7.n s7.c, .slice s8.a s8.n s8.c, .slice m.it.a m.it.n m.it.c]) wc := ldT_run H3.out.bm Tryd.underlying51 rfl (by kernel_rfl)
        have O2 : Hid (Calls Tryd.prog 20 #[.agg #[.string m.nm, .bool m.sy, .slice m.im.a m.im.n m.im.c, .slice m.sm.a m.sm.n m.sm.c, .slice m.ty.a m.ty.n m.ty.c, .slice m.st.a m.st.n m.st.c, .slice s6.a s6.n s6.c, .slice s7.a s7.n s7.c, .slice s8.a s8.n s8.c, .slice m.it.a m.it.n m.it.c]] wc fun e Y => ∃ (s2 : Sc) (Z : World), e = .returned (.tuple #[.agg #[.string s2.nm, .slice s2.cs.a s2.cs.n s2.cs.c, .slice s2.vs.a s2.vs.n s2.vs.c, .slice s2.ps.a s2.ps.n s2.ps.c], .int .i64 (ofE q0)]) ∧ (stT 26 ⟨Y.heap.size, 0, none⟩ (.agg #[.string s2.nm, .slice s2.cs.a s2.cs.n s2.cs.c, .slice s2.vs.a s2.vs.n s2.vs.c, .slice s2.ps.a s2.ps.n s2.ps.c])).run Tryd.prog (Y.alloc (.cells #[.string ⟨#[]⟩, .slice none 0 0, .slice none 0 0, .slice none 0 0] 26)) = .ok () Z ∧ (ldT 26 ⟨g1, 0, none⟩).run Tryd.prog Z = .ok (.agg #[.string sc.nm, .slice sc.cs.a sc.cs.n sc.cs.c, .slice sc.vs.a sc.vs.n sc.vs.c, .slice sc.ps.a sc.ps.n sc.ps.c]) Z ∧ Hid (HZ w Z g1 Y.heap.size sc s2 (q0.getD zeroY))) := hid_of ((of_any wc (VS.out.below H3.out.be VS.out.big) { m with cs := s6, vs := s7, ps := s8 } T ({ c with ex := false } :: C) ({ v with ex := false } :: V) ({ p with ex := false } :: P) H3.out.own).mono fun e Y hh => by
          obtain ⟨s2, h1, h2, h3, h4⟩ := hh
          rw [show ofO ({ m with cs := s6, vs := s7, ps := s8 } : Mm).nm T ({ c with ex := false } :: C) ({ v with ex := false } :: V) ({ p with ex := false } :: P) = q0 from HO.out] at h1 h3 h4
          obtain ⟨Z, z1, z2, z3⟩ := stT_run (w := Y.alloc (.cells #[.string ⟨#[]⟩, .slice none 0 0, .slice none 0 0, .slice none 0 0] 26)) s2.cells (BA.new Y _ _) rfl (by kernel_rfl) (sc_one _)
          have bZ : Below Y.heap.size Y Z := ((Below.refl _ _).alloc (Nat.le_refl _) _).trans (z3.bel (by simp) (Nat.le_refl _))
          have hb : Below wc.heap.size wc Z := h2.trans (bZ.mono h2.size)
          have q3 := H3.out.below hb
          have sy := H3.out.sy
          have hqq := HQ0.out
          refine ⟨s2, Z, h1, z1, ldT_run q3.s1 Tryd.underlying26 rfl (by kernel_rfl), q3.s1, z2, q3.be, ?_, ?_⟩
          · cases hc : q0 with
            | none =>
              rw [q3.sy.1 (by rw [hqq, hc])]
              exact ⟨[], zero_rd Z⟩
            | some o =>
              obtain ⟨r, B, hs⟩ := q3.sy.2 o (by rw [hqq, hc])
              exact (hs Z ⟨rfl, rfl, rfl, Nat.le_refl _, fun _ _ _ => rfl⟩).rdy (in_right r)
          · cases hc : q0 with
            | none =>
              rw [h3 hc]
              exact ⟨[], zero_rd Z⟩
            | some o =>
              obtain ⟨r, B, _, hs⟩ := h4 o hc
              exact (hs.below bZ).rdy (in_right r))
        have K1 : Hid (∀ X g3 s2 o, HZ w X g1 g3 sc s2 o → Calls Tryd.prog 13 #[.agg #[.string sc.nm, .slice sc.cs.a sc.cs.n sc.cs.c, .slice sc.vs.a sc.vs.n sc.vs.c, .slice sc.ps.a sc.ps.n sc.ps.c]] X fun e Y => e = .returned (.tuple #[.int .u32 (kvI o), .int .i64 (keE o)]) ∧ (ldT 26 ⟨g3, 0, none⟩).run Tryd.prog Y = .ok (.agg #[.string s2.nm, .slice s2.cs.a s2.cs.n s2.cs.c, .slice s2.vs.a s2.vs.n s2.vs.c, .slice s2.ps.a s2.ps.n s2.ps.c]) Y ∧ Hid (HZ w Y g1 g3 sc s2 o)) := hid_of fun X g3 s2 o hX => (key_two X (VS.out.below hX.be VS.out.big) sc o hX.r1).mono fun e Y hh => ⟨hh.1, ldT_run (hX.below hh.2).a2 Tryd.underlying26 rfl (by kernel_rfl), hX.below hh.2⟩
        have K2 : Hid (∀ X g3 s2 o, HZ w X g1 g3 sc s2 o → Calls Tryd.prog 13 #[.agg #[.string s2.nm, .slice s2.cs.a s2.cs.n s2.cs.c, .slice s2.vs.a s2.vs.n s2.vs.c, .slice s2.ps.a s2.ps.n s2.ps.c]] X fun e Y => e = .returned (.tuple #[.int .u32 (kvI o), .int .i64 (keE o)]) ∧ (ldT 26 ⟨g1, 0, none⟩).run Tryd.prog Y = .ok (.agg #[.string sc.nm, .slice sc.cs.a sc.cs.n sc.cs.c, .slice sc.vs.a sc.vs.n sc.vs.c, .slice sc.ps.a sc.ps.n sc.ps.c]) Y ∧ (ldT 26 ⟨g3, 0, none⟩).run Tryd.prog Y = .ok (.agg #[.string s2.nm, .slice s2.cs.a s2.cs.n s2.cs.c, .slice s2.vs.a s2.vs.n s2.vs.c, .slice s2.ps.a s2.ps.n s2.ps.c]) Y ∧ Hid (HZ w Y g1 g3 sc s2 o)) := hid_of fun X g3 s2 o hX => (key_two X (VS.out.below hX.be VS.out.big) s2 o hX.r2).mono fun e Y hh => ⟨hh.1, ldT_run (hX.below hh.2).a1 Tryd.underlying26 rfl (by kernel_rfl), ldT_run (hX.below hh.2).a2 Tryd.underlying26 rfl (by kernel_rfl), hX.below hh.2⟩
        have SM : Hid (∀ X g3 s2 o, HZ w X g1 g3 sc s2 o → Calls Tryd.prog 15 #[.agg #[.string sc.nm, .slice sc.cs.a sc.cs.n sc.cs.c, .slice sc.vs.a sc.vs.n sc.vs.c, .slice sc.ps.a sc.ps.n sc.ps.c], .agg #[.string s2.nm, .slice s2.cs.a s2.cs.n s2.cs.c, .slice s2.vs.a s2.vs.n s2.vs.c, .slice s2.ps.a s2.ps.n s2.ps.c]] X fun e Y => e = .returned (.bool true) ∧ Hid (Below w.heap.size w Y)) := hid_of fun X g3 s2 o hX => by
          obtain ⟨l1, hl1⟩ := hX.r1
          obtain ⟨l2, hl2⟩ := hX.r2
          exact (same_eq X sc s2 o l1 l2 hl1 hl2).mono fun e Y hh => ⟨hh.1, hX.be.trans (hh.2.mono hX.be.size)⟩
        clear VS HO HP HM N M HQ0 H3
        generalize q0.getD zeroY = oq at O2
        have e2 : (kvI oq == kvI oq) = true := by simp
        have e3 : (keE oq == keE oq) = true := by simp
        go_wp2_with (first
          | (have hx := HZ3; clear hx; go_at_call 15; refine (SM.out _ _ _ _ HZ3.out).mono ?_; rintro e w6 ⟨rfl, HE⟩)
          | (have hx := HZ2; clear hx; go_at_call 13; refine (K2.out _ _ _ _ HZ2.out).mono ?_; rintro e w5 ⟨rfl, l5, l6, HZ3⟩)
          | (have hx := HZ1; clear hx; go_at_call 13; refine (K1.out _ _ _ _ HZ1.out).mono ?_; rintro e w4 ⟨rfl, l4, HZ2⟩)
          | (go_at_call 20; refine O2.out.mono ?_; rintro e w3 ⟨s2, Z3, rfl, z3, l3, HZ1⟩))
        go_ret
        exact ⟨ret_bool (by simp), HE.out⟩
end Go.Proofs.YtcppgpcgbggdcaaDoor

namespace Go.Proofs.YtcppgpcgbggdcaaDoor
open Go.ChangeShapes Go.WideShapes Go.ChangeAt Go.RowKit
set_option linter.unusedVariables false
theorem list7 {l : List Value} {a0 a1 a2 a3 a4 a5 a6 : Value} (hl : l.length = 7) (h0 : l[0]? = some a0) (h1 : l[1]? = some a1) (h2 : l[2]? = some a2) (h3 : l[3]? = some a3) (h4 : l[4]? = some a4) (h5 : l[5]? = some a5) (h6 : l[6]? = some a6) : l = [a0, a1, a2, a3, a4, a5, a6] := by
  match l, hl with
  | [x0, x1, x2, x3, x4, x5, x6], _ => simp at h0 h1 h2 h3 h4 h5 h6; rw [h0, h1, h2, h3, h4, h5, h6]
theorem list10 {l : List Value} {a0 a1 a2 a3 a4 a5 a6 a7 a8 a9 : Value} (hl : l.length = 10) (h0 : l[0]? = some a0) (h1 : l[1]? = some a1) (h2 : l[2]? = some a2) (h3 : l[3]? = some a3) (h4 : l[4]? = some a4) (h5 : l[5]? = some a5) (h6 : l[6]? = some a6) (h7 : l[7]? = some a7) (h8 : l[8]? = some a8) (h9 : l[9]? = some a9) : l = [a0, a1, a2, a3, a4, a5, a6, a7, a8, a9] := by
  match l, hl with
  | [x0, x1, x2, x3, x4, x5, x6, x7, x8, x9], _ => simp at h0 h1 h2 h3 h4 h5 h6 h7 h8 h9; rw [h0, h1, h2, h3, h4, h5, h6, h7, h8, h9]
theorem cells_ty : Tryd.prog.cellsOf 102 = 7 := by kernel_rfl
theorem cells_wv : Tryd.prog.cellsOf 55 = 4 := by kernel_rfl
theorem cells_px : Tryd.prog.cellsOf 58 = 7 := by kernel_rfl
theorem cells_mm : Tryd.prog.cellsOf 51 = 10 := by kernel_rfl
theorem cells_s0 : Tryd.prog.cellsOf 43 = 1 := by kernel_rfl
theorem cells_s1 : Tryd.prog.cellsOf 44 = 1 := by kernel_rfl
theorem cells_s2 : Tryd.prog.cellsOf 45 = 1 := by kernel_rfl
theorem cells_s3 : Tryd.prog.cellsOf 46 = 1 := by kernel_rfl
theorem cells_s4 : Tryd.prog.cellsOf 47 = 1 := by kernel_rfl
theorem cells_s5 : Tryd.prog.cellsOf 48 = 1 := by kernel_rfl
theorem cells_s6 : Tryd.prog.cellsOf 49 = 1 := by kernel_rfl
theorem cells_s7 : Tryd.prog.cellsOf 56 = 1 := by kernel_rfl
theorem cells_s8 : Tryd.prog.cellsOf 100 = 1 := by kernel_rfl
section
variable {H : Type} {enc : TypeId × Value → H} {W : World} {base : Nat} {held : Bool}
/-- A slice, whatever it holds. -/
theorem slice_at {t e : TypeId} {fuel : Nat} {cs : List Value} {x : DataW H × List MemPlace} (ht : Tryd.prog.underlying t = some (.slice e)) (h : DataW.trod enc Tryd.prog W base (fun _ => true) held fuel t cs = some x) : ∃ s : Sl, cs = [.slice s.a s.n s.c] ∧ s.n ≤ s.c := by
  rcases Go.Deep.open_slice ht h with ⟨hc2, _⟩ | ⟨a, len, cap, m, n, D, Pl, hc2, _, hl, _⟩
  · exact ⟨⟨none, 0, 0⟩, hc2, Nat.le_refl _⟩
  · exact ⟨⟨some a, len, cap⟩, hc2, hl⟩
theorem cn_of {fuel : Nat} {l : List Value} {y : DataW H × List MemPlace} (hy : DataW.trod enc Tryd.prog W base (fun _ => true) held fuel 53 l = some y) (hl : Lt 53 y.1) : ∃ c : Cn, c.nm.size ≤ 140737488355328 ∧ l = (cEnc c).toList := by
  obtain ⟨y0, n0, a0, b0, c0⟩ := field1 Tryd.underlying53 hy hl 0 _ rfl cells_str
  obtain ⟨y1, n1, a1, b1, _⟩ := field1 Tryd.underlying53 hy hl 1 _ rfl cells_int
  obtain ⟨y2, n2, a2, b2, _⟩ := field1 Tryd.underlying53 hy hl 2 _ rfl cells_i64
  obtain ⟨y3, n3, a3, b3, _⟩ := field1 Tryd.underlying53 hy hl 3 _ rfl cells_str
  obtain ⟨y4, n4, a4, b4, _⟩ := field1 Tryd.underlying53 hy hl 4 _ rfl cells_bool
  obtain ⟨z0, e0, s0⟩ := str_small a0 b0
  obtain ⟨z1, e1, _, _⟩ := DataW.trod_int Tryd.underlying3 a1
  obtain ⟨z2, e2, _, _⟩ := DataW.trod_int Tryd.underlying2 a2
  obtain ⟨z3, e3, s3⟩ := str_small a3 b3
  obtain ⟨z4, e4, _⟩ := DataW.trod_bool Tryd.underlying4 a4
  exact ⟨⟨z0, z1, z2, z3, z4⟩, s0, list5 (c0.trans cells_cn) (at_of e0) (at_of e1) (at_of e2) (at_of e3) (at_of e4)⟩
theorem tz_of {fuel : Nat} {l : List Value} {y : DataW H × List MemPlace} (hy : DataW.trod enc Tryd.prog W base (fun _ => true) held fuel 102 l = some y) (hl : Lt 102 y.1) : ∃ c : Tz, True ∧ l = (tzE c).toList := by
  obtain ⟨y0, n0, a0, b0, c0⟩ := field1 Tryd.underlying102 hy hl 0 _ rfl cells_int
  obtain ⟨y1, n1, a1, b1, _⟩ := field1 Tryd.underlying102 hy hl 1 _ rfl cells_int
  obtain ⟨y2, n2, a2, b2, _⟩ := field1 Tryd.underlying102 hy hl 2 _ rfl cells_int
  obtain ⟨y3, n3, a3, b3, _⟩ := field1 Tryd.underlying102 hy hl 3 _ rfl cells_int
  obtain ⟨y4, n4, a4, b4, _⟩ := field1 Tryd.underlying102 hy hl 4 _ rfl cells_s8
  obtain ⟨y5, n5, a5, b5, _⟩ := field1 Tryd.underlying102 hy hl 5 _ rfl cells_int
  obtain ⟨y6, n6, a6, b6, _⟩ := field1 Tryd.underlying102 hy hl 6 _ rfl cells_int
  obtain ⟨z0, e0, _, _⟩ := DataW.trod_int Tryd.underlying3 a0
  obtain ⟨z1, e1, _, _⟩ := DataW.trod_int Tryd.underlying3 a1
  obtain ⟨z2, e2, _, _⟩ := DataW.trod_int Tryd.underlying3 a2
  obtain ⟨z3, e3, _, _⟩ := DataW.trod_int Tryd.underlying3 a3
  obtain ⟨z4, e4, _⟩ := slice_at Tryd.underlying100 a4
  obtain ⟨z5, e5, _, _⟩ := DataW.trod_int Tryd.underlying3 a5
  obtain ⟨z6, e6, _, _⟩ := DataW.trod_int Tryd.underlying3 a6
  exact ⟨⟨z0, z1, z2, z3, z4, z5, z6⟩, trivial, list7 (c0.trans cells_ty) (at_of e0) (at_of e1) (at_of e2) (at_of e3) (at_of e4) (at_of e5) (at_of e6)⟩
theorem wv_of {fuel : Nat} {l : List Value} {y : DataW H × List MemPlace} (hy : DataW.trod enc Tryd.prog W base (fun _ => true) held fuel 55 l = some y) (hl : Lt 55 y.1) : ∃ c : Wv, c.nm.size ≤ 140737488355328 ∧ l = (wvE c).toList := by
  obtain ⟨y0, n0, a0, b0, c0⟩ := field1 Tryd.underlying55 hy hl 0 _ rfl cells_str
  obtain ⟨y1, n1, a1, b1, _⟩ := field1 Tryd.underlying55 hy hl 1 _ rfl cells_int
  obtain ⟨y2, n2, a2, b2, _⟩ := field1 Tryd.underlying55 hy hl 2 _ rfl cells_bool
  obtain ⟨y3, n3, a3, b3, _⟩ := field1 Tryd.underlying55 hy hl 3 _ rfl cells_bool
  obtain ⟨z0, e0, s0⟩ := str_small a0 b0
  obtain ⟨z1, e1, _, _⟩ := DataW.trod_int Tryd.underlying3 a1
  obtain ⟨z2, e2, _⟩ := DataW.trod_bool Tryd.underlying4 a2
  obtain ⟨z3, e3, _⟩ := DataW.trod_bool Tryd.underlying4 a3
  exact ⟨⟨z0, z1, z2, z3⟩, s0, list4 (c0.trans cells_wv) (at_of e0) (at_of e1) (at_of e2) (at_of e3)⟩
theorem row_tzs {fuel : Nat} {cs : List Value} {x : DataW H × List MemPlace} (h : DataW.trod enc Tryd.prog W base (fun _ => true) held fuel 45 cs = some x) (hw : Lt 45 x.1) : ∃ (s : Sl) (xs : List Tz), cs = [.slice s.a s.n s.c] ∧ (∀ z ∈ xs, True) ∧ RdV W 7 s xs.length (flat tzE xs) :=
  open_row Tryd.underlying45 cells_ty (by omega) (of_decide_eq_true (by kernel_rfl)) h hw tzE (fun z => True) zeroTz (fun n l y hy hl => tz_of hy hl) (fun _ => rfl)
theorem row_wvs {fuel : Nat} {cs : List Value} {x : DataW H × List MemPlace} (h : DataW.trod enc Tryd.prog W base (fun _ => true) held fuel 47 cs = some x) (hw : Lt 47 x.1) : ∃ (s : Sl) (xs : List Wv), cs = [.slice s.a s.n s.c] ∧ (∀ z ∈ xs, z.nm.size ≤ 140737488355328) ∧ RdV W 4 s xs.length (flat wvE xs) :=
  open_row Tryd.underlying47 cells_wv (by omega) (of_decide_eq_true (by kernel_rfl)) h hw wvE (fun z => z.nm.size ≤ 140737488355328) ⟨⟨#[]⟩, 0, false, false⟩ (fun n l y hy hl => wv_of hy hl) (fun _ => rfl)
theorem px_of {fuel : Nat} {l : List Value} {y : DataW H × List MemPlace} (hy : DataW.trod enc Tryd.prog W base (fun _ => true) held fuel 58 l = some y) (hl : Lt 58 y.1) : ∃ z : Px, (z.nm.size ≤ 140737488355328 ∧ RdV W 4 z.vl z.vs.length (flat wvE z.vs) ∧ z.vl.n ≤ z.vl.c) ∧ l = (pxE z).toList := by
  obtain ⟨y0, n0, a0, b0, c0⟩ := field1 Tryd.underlying58 hy hl 0 _ rfl cells_str
  obtain ⟨y1, n1, a1, b1, _⟩ := field1 Tryd.underlying58 hy hl 1 _ rfl cells_bool
  obtain ⟨y2, n2, a2, b2, _⟩ := field1 Tryd.underlying58 hy hl 2 _ rfl cells_int
  obtain ⟨y3, n3, a3, b3, _⟩ := field1 Tryd.underlying58 hy hl 3 _ rfl cells_s4
  obtain ⟨y4, n4, a4, b4, _⟩ := field1 Tryd.underlying58 hy hl 4 _ rfl cells_int
  obtain ⟨y5, n5, a5, b5, _⟩ := field1 Tryd.underlying58 hy hl 5 _ rfl cells_s6
  obtain ⟨y6, n6, a6, b6, _⟩ := field1 Tryd.underlying58 hy hl 6 _ rfl cells_s7
  obtain ⟨z0, e0, s0⟩ := str_small a0 b0
  obtain ⟨z1, e1, _⟩ := DataW.trod_bool Tryd.underlying4 a1
  obtain ⟨z2, e2, _, _⟩ := DataW.trod_int Tryd.underlying3 a2
  obtain ⟨z3, l3, e3, _, r3⟩ := row_wvs a3 b3
  have q3 := slice_at Tryd.underlying47 a3
  obtain ⟨z4, e4, _, _⟩ := DataW.trod_int Tryd.underlying3 a4
  obtain ⟨z5, e5, _⟩ := slice_at Tryd.underlying49 a5
  obtain ⟨z6, e6, _⟩ := slice_at Tryd.underlying56 a6
  have hle : z3.n ≤ z3.c := by
    obtain ⟨s9, g1, g2⟩ := q3
    rw [e3] at g1
    simp at g1
    omega
  exact ⟨⟨z0, z1, z2, z3, z4, z5, z6, l3⟩, ⟨s0, r3, hle⟩, list7 (c0.trans cells_px) (at_of e0) (at_of e1) (at_of e2) (at_of e3) (at_of e4) (at_of e5) (at_of e6)⟩
theorem row_pxs {fuel : Nat} {cs : List Value} {x : DataW H × List MemPlace} (h : DataW.trod enc Tryd.prog W base (fun _ => true) held fuel 48 cs = some x) (hw : Lt 48 x.1) : ∃ (s : Sl) (xs : List Px), cs = [.slice s.a s.n s.c] ∧ (∀ z ∈ xs, z.nm.size ≤ 140737488355328 ∧ RdV W 4 z.vl z.vs.length (flat wvE z.vs) ∧ z.vl.n ≤ z.vl.c) ∧ RdV W 7 s xs.length (flat pxE xs) :=
  open_row Tryd.underlying48 cells_px (by omega) (of_decide_eq_true (by kernel_rfl)) h hw pxE (fun z => z.nm.size ≤ 140737488355328 ∧ RdV W 4 z.vl z.vs.length (flat wvE z.vs) ∧ z.vl.n ≤ z.vl.c) ⟨⟨#[]⟩, false, 0, ⟨none, 0, 0⟩, 0, ⟨none, 0, 0⟩, ⟨none, 0, 0⟩, []⟩ (fun n l y hy hl => px_of hy hl) (fun _ => rfl)
theorem mod_of {fuel : Nat} {l : List Value} {y : DataW H × List MemPlace} (hy : DataW.trod enc Tryd.prog W base (fun _ => true) held fuel 51 l = some y) (hl : Lt 51 y.1) : ∃ (m : Mm) (T : List Tz) (C : List Cn) (V : List Wv) (P : List Px), l = (mmE m).toList ∧ MmR W m T C V P ∧ C.length * 56 ≤ 140737488351232 ∧ V.length * 32 ≤ 140737488351232 ∧ P.length * 112 ≤ 140737488351232 := by
  obtain ⟨y0, n0, a0, b0, c0⟩ := field1 Tryd.underlying51 hy hl 0 _ rfl cells_str
  obtain ⟨y1, n1, a1, b1, _⟩ := field1 Tryd.underlying51 hy hl 1 _ rfl cells_bool
  obtain ⟨y2, n2, a2, b2, _⟩ := field1 Tryd.underlying51 hy hl 2 _ rfl cells_s0
  obtain ⟨y3, n3, a3, b3, _⟩ := field1 Tryd.underlying51 hy hl 3 _ rfl cells_s1
  obtain ⟨y4, n4, a4, b4, _⟩ := field1 Tryd.underlying51 hy hl 4 _ rfl cells_s2
  obtain ⟨y5, n5, a5, b5, _⟩ := field1 Tryd.underlying51 hy hl 5 _ rfl cells_s3
  obtain ⟨y6, n6, a6, b6, _⟩ := field1 Tryd.underlying51 hy hl 6 _ rfl cells_cns
  obtain ⟨y7, n7, a7, b7, _⟩ := field1 Tryd.underlying51 hy hl 7 _ rfl cells_s4
  obtain ⟨y8, n8, a8, b8, _⟩ := field1 Tryd.underlying51 hy hl 8 _ rfl cells_s5
  obtain ⟨y9, n9, a9, b9, _⟩ := field1 Tryd.underlying51 hy hl 9 _ rfl cells_s6
  obtain ⟨z0, e0, s0⟩ := str_small a0 b0
  obtain ⟨z1, e1, _⟩ := DataW.trod_bool Tryd.underlying4 a1
  obtain ⟨z2, e2, _⟩ := slice_at Tryd.underlying43 a2
  obtain ⟨z3, e3, _⟩ := slice_at Tryd.underlying44 a3
  obtain ⟨z5, e5, _⟩ := slice_at Tryd.underlying46 a5
  obtain ⟨z9, e9, _⟩ := slice_at Tryd.underlying49 a9
  obtain ⟨z4, T, e4, _, r4⟩ := row_tzs a4 b4
  obtain ⟨z6, C, e6, g6, r6⟩ := row_cns a6 b6
  obtain ⟨z7, V, e7, g7, r7⟩ := row_wvs a7 b7
  obtain ⟨z8, P, e8, g8, r8⟩ := row_pxs a8 b8
  have m6 := (open_room Tryd.underlying22 (by_ := 56) (by kernel_rfl) a6 b6 z6 e6).1
  have m7 := (open_room Tryd.underlying47 (by_ := 32) (by kernel_rfl) a7 b7 z7 e7).1
  have m8 := (open_room Tryd.underlying48 (by_ := 112) (by kernel_rfl) a8 b8 z8 e8).1
  rw [r6.len] at m6
  rw [r7.len] at m7
  rw [r8.len] at m8
  exact ⟨⟨z0, z1, z2, z3, z4, z5, z6, z7, z8, z9⟩, T, C, V, P, list10 (c0.trans cells_mm) (at_of e0) (at_of e1) (at_of e2) (at_of e3) (at_of e4) (at_of e5) (at_of e6) (at_of e7) (at_of e8) (at_of e9), ⟨r4, r6, r7, r8, fun p hp => (g8 p hp).2, by omega, by omega, by omega, s0, g6, g7, fun p hp => (g8 p hp).1⟩, m6, m7, m8⟩
end
end Go.Proofs.YtcppgpcgbggdcaaDoor

namespace Go.Proofs.YtcppgpcgbggdcaaDoor
open Go.ChangeShapes Go.WideShapes Go.ChangeAt Go.RowKit
set_option linter.unusedVariables false

namespace symHides
set_option maxRecDepth 100000 in
theorem lifted (os : Os) (started : os.Started) (H : Type) (enc : TypeId × Value → H) :
    ReturnsInHanded {} Tryd.checked os 7 .any (fun w args => (Rows.symHidesSpec.pre enc Tryd.prog Tryd.f7 [] false w args ∧ laidMetH Tryd.prog Rows.symHidesRow.laid w) ∧ sizedMet enc Tryd.prog Tryd.f7 (OpenSpec.ofChange Rows.symHidesSpec) false w args)
      (Rows.symHidesSpec.post enc Tryd.prog Tryd.f7 false true false false) := by
  refine returns_sized (C := Tryd.checked) (X := fun w _ => laidMetH Tryd.prog Rows.symHidesRow.laid w) (fun _ _ _ hh h => h.of_heap hh) ownK started (by kernel_rfl) Tryd.func7
    (ChangeSpec.witness_shaped (enc := enc) (C := Tryd.checked) (os := os) (X := fun w _ => laidMetH Tryd.prog Rows.symHidesRow.laid w) false (World.laidAll Tryd.prog os Rows.symHidesRow.laid) #[.agg #[.string ⟨#[]⟩, .bool false, .slice none 0 0, .slice none 0 0, .slice none 0 0, .slice none 0 0, .slice none 0 0, .slice none 0 0, .slice none 0 0, .slice none 0 0], .agg #[.string ⟨#[]⟩, .int .i64 0, .int .i64 0, .string ⟨#[]⟩, .bool false], .agg #[.string ⟨#[]⟩, .int .i64 0, .bool false, .bool false], .agg #[.string ⟨#[]⟩, .bool false, .int .i64 0, .slice none 0 0, .int .i64 0, .slice none 0 0, .slice none 0 0]] 8 (World.laidAll_os _ _ _)
      (World.shaped_of_ZipB (by kernel_rfl) (by kernel_rfl)) (by kernel_rfl) (by kernel_rfl) (by kernel_rfl)
      (by rw [MakeChecks.laidMetH_plain _ _ _ (by kernel_rfl)]; exact laidMet_laidAll _ (by kernel_rfl) (by kernel_rfl))) ?_
  intro W base args ds gs before hS hL hval0 hW hZ
  have V := vs_laid rfl hL
  clear hS hL
  have hval : ∀ (j : Nat) t v, Tryd.f7.params[j]? = some t → args[j]? = some v → Value.okWide Tryd.prog W .any base t v := hval0
  have hW' := hW
  obtain ⟨p, q, hA0, hV, rfl, hfz, hnd⟩ := hW
  have hA : DataW.TrodAll enc Tryd.prog W 0 (fun _ => true) true Tryd.f7.params.toList args.toList ds p := hA0
  rw [Tryd.params7] at hA hval
  obtain ⟨v0, vs0, d0, ds0, p0, q0, hargs, rfl, rfl, h0, r0⟩ := trodAll_cons hA
  obtain ⟨v1, vs1, d1, ds1, p1, q1, rfl, rfl, rfl, h1, r1⟩ := trodAll_cons r0
  obtain ⟨v2, vs2, d2, ds2, p2, q2, rfl, rfl, rfl, h2, r2⟩ := trodAll_cons r1
  obtain ⟨v3, vs3, d3, ds3, p3, q3, rfl, rfl, rfl, h3, r3⟩ := trodAll_cons r2
  obtain ⟨rfl, rfl, rfl⟩ := trodAll_nil r3
  obtain rfl : args = #[v0, v1, v2, v3] := by cases args; simp_all
  obtain ⟨rfl, rfl⟩ := trodVars_none hV
  have k0 := h0
  have k1 := h1
  have k2 := h2
  have k3 := h3
  have lt0 : ∀ x ∈ p0, x.block < W.heap.size := by obtain ⟨m, hm⟩ := k0; exact DataW.trod_lt m _ _ _ hm
  have lt1 : ∀ x ∈ p1, x.block < W.heap.size := by obtain ⟨m, hm⟩ := k1; exact DataW.trod_lt m _ _ _ hm
  have lt2 : ∀ x ∈ p2, x.block < W.heap.size := by obtain ⟨m, hm⟩ := k2; exact DataW.trod_lt m _ _ _ hm
  have lt3 : ∀ x ∈ p3, x.block < W.heap.size := by obtain ⟨m, hm⟩ := k3; exact DataW.trod_lt m _ _ _ hm
  obtain ⟨m, T, C, V2, P, c, v, p, hv0, hv1, hv2, hv3, hR, m1, m2, m3, n1, n2, n3⟩ : ∃ (m : Mm) (T : List Tz) (C : List Cn) (V2 : List Wv) (P : List Px) (c : Cn) (v : Wv) (p : Px), v0 = .agg (mmE m) ∧ v1 = .agg (cEnc c) ∧ v2 = .agg (wvE v) ∧ v3 = .agg (pxE p) ∧ MmR W m T C V2 P ∧ C.length * 56 ≤ 140737488351232 ∧ V2.length * 32 ≤ 140737488351232 ∧ P.length * 112 ≤ 140737488351232 ∧ c.nm.size ≤ 140737488355328 ∧ v.nm.size ≤ 140737488355328 ∧ p.nm.size ≤ 140737488355328 ∧ RdV W 4 p.vl p.vs.length (flat wvE p.vs) ∧ p.vl.n ≤ p.vl.c := by
    obtain ⟨es, gs', before', ⟨p', q', hB0, hV', _⟩, hsz0⟩ := hZ
    have hB : DataW.TrodAll enc Tryd.prog W 0 (fun _ => true) true Tryd.f7.params.toList [v0, v1, v2, v3] es p' := hB0
    rw [Tryd.params7] at hB hsz0
    obtain ⟨_, _, e0, _, _, _, hx0, rfl, rfl, kk0, o1⟩ := trodAll_cons hB
    obtain ⟨rfl, rfl⟩ := List.cons.inj hx0
    obtain ⟨_, _, e1, _, _, _, hx1, rfl, rfl, kk1, o2⟩ := trodAll_cons o1
    obtain ⟨rfl, rfl⟩ := List.cons.inj hx1
    obtain ⟨_, _, e2, _, _, _, hx2, rfl, rfl, kk2, o3⟩ := trodAll_cons o2
    obtain ⟨rfl, rfl⟩ := List.cons.inj hx2
    obtain ⟨_, _, e3, _, _, _, hx3, rfl, rfl, kk3, o4⟩ := trodAll_cons o3
    obtain ⟨rfl, rfl⟩ := List.cons.inj hx3
    obtain ⟨_, rfl, rfl⟩ := trodAll_nil o4
    have hsz : (DataW.weightsEach Tryd.prog _ _).all (· ≤ reachBytes) = true := hsz0
    obtain ⟨cs0, rfl, _⟩ := okWide_struct Tryd.underlying51 (hval 0 51 v0 rfl rfl)
    obtain ⟨fuel0, hf0⟩ := kk0
    have hl0 : Lt 51 e0 := fun m hm => by
      have := List.all_eq_true.1 hsz _ (DataW.weights_mem_each (j := 0) (t := 51) (d := e0) rfl rfl m hm)
      simpa using this
    obtain ⟨cs1, rfl, _⟩ := okWide_struct Tryd.underlying53 (hval 1 53 v1 rfl rfl)
    obtain ⟨fuel1, hf1⟩ := kk1
    have hl1 : Lt 53 e1 := fun m hm => by
      have := List.all_eq_true.1 hsz _ (DataW.weights_mem_each (j := 1) (t := 53) (d := e1) rfl rfl m hm)
      simpa using this
    obtain ⟨cs2, rfl, _⟩ := okWide_struct Tryd.underlying55 (hval 2 55 v2 rfl rfl)
    obtain ⟨fuel2, hf2⟩ := kk2
    have hl2 : Lt 55 e2 := fun m hm => by
      have := List.all_eq_true.1 hsz _ (DataW.weights_mem_each (j := 2) (t := 55) (d := e2) rfl rfl m hm)
      simpa using this
    obtain ⟨cs3, rfl, _⟩ := okWide_struct Tryd.underlying58 (hval 3 58 v3 rfl rfl)
    obtain ⟨fuel3, hf3⟩ := kk3
    have hl3 : Lt 58 e3 := fun m hm => by
      have := List.all_eq_true.1 hsz _ (DataW.weights_mem_each (j := 3) (t := 58) (d := e3) rfl rfl m hm)
      simpa using this
    obtain ⟨m, T, C, V2, P, a1, a2, a3, a4, a5⟩ := mod_of hf0 hl0
    obtain ⟨c, b1, b2⟩ := cn_of hf1 hl1
    obtain ⟨v, c1, c2⟩ := wv_of hf2 hl2
    obtain ⟨p, d1, d2⟩ := px_of hf3 hl3
    have a1 : cs0.toList = (mmE m).toList := a1
    have b2 : cs1.toList = (cEnc c).toList := b2
    have c2 : cs2.toList = (wvE v).toList := c2
    have d2 : cs3.toList = (pxE p).toList := d2
    exact ⟨m, T, C, V2, P, c, v, p, by rw [Array.toList_inj.1 a1], by rw [Array.toList_inj.1 b2], by rw [Array.toList_inj.1 c2], by rw [Array.toList_inj.1 d2], a2, a3, a4, a5, b1, c1, d1.1, d1.2⟩
  subst hv0
  subst hv1
  subst hv2
  subst hv3
  obtain ⟨n3, hp⟩ := n3
  clear hA0 hval0 hZ
  refine (hides_of W V m T C V2 P c v p hR hp n1 n2 n3 m1 m2 m3).mono fun e W' ⟨he, bel⟩ => ?_
  subst he
  exact ⟨_, rfl, _, _, _, [], _, [], hW', trodAll_mk1 (shut_bool Tryd.underlying4 _), (trodAll_cons_mk (Below.trod laidOutB8 (by kernel_rfl) (of_decide_eq_true (by kernel_rfl)) k0 bel lt0) (trodAll_cons_mk (Below.trod laidOutB8 (by kernel_rfl) (of_decide_eq_true (by kernel_rfl)) k1 bel lt1) (trodAll_cons_mk (Below.trod laidOutB8 (by kernel_rfl) (of_decide_eq_true (by kernel_rfl)) k2 bel lt2) (trodAll_cons_mk (Below.trod laidOutB8 (by kernel_rfl) (of_decide_eq_true (by kernel_rfl)) k3 bel lt3) trodAll_mk0)))), rfl, bel.frame _, fun h => by cases h⟩

theorem over : Rows.SymHidesSaid :=
  OpenClaim.holds_of_wide 7 Tryd.f7 rfl rfl rfl rfl rfl rfl rfl ⟨rfl, rfl, rfl, rfl, rfl⟩ rfl rfl rfl rfl rfl (by kernel_rfl) Tryd.func7 (by kernel_rfl)
    (of_decide_eq_true (by kernel_rfl)) (by unfold Func.isWrapper; first | (rw [if_pos (by decide +kernel)]; kernel_rfl) | (rw [if_neg (by decide +kernel)]; exact ⟨rfl, rfl⟩))
    (fun os started H enc _ => lifted os started H enc)
end symHides
/-- The given card. -/
theorem symHides_holds : Rows.SymHidesCardSaid :=
  Claim7.holds_tied_plain_at .later [] _ _ _ _ symHides.over (fun _ h => by cases h) (by kernel_rfl) (fun _ h => by cases h) symHides_row_tie rfl ⟨rfl, rfl⟩ (by kernel_rfl) rfl
    (fun f fn hf hfn => by
      obtain rfl : f = 7 := Option.some.inj ((show Tryd.prog.funcNamed "carrel/carrellaw13.SymHides" = some 7 by kernel_rfl).symm.trans hf) |>.symm
      obtain rfl : fn = Tryd.f7 := (Option.some.inj (Tryd.func7.symm.trans hfn)).symm
      exact ⟨by kernel_rfl, fun j t ht => by
        rw [Tryd.params7] at ht
        have hm : t ∈ [51, 53, 55, 58] := by simpa using Array.mem_of_getElem? ht
        have hall : ([51, 53, 55, 58].all fun u => !Tryd.prog.wantsStandIn u) = true := by kernel_rfl
        exact (show Tryd.prog.wantsStandIn t = false by simpa using List.all_eq_true.1 hall t hm)⟩)
    (by kernel_rfl)
#print axioms symHides_holds
end Go.Proofs.YtcppgpcgbggdcaaDoor
