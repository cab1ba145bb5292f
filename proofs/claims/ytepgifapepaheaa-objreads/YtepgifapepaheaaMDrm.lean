/-
  Layer 7, the document's side: what stands while Decode reads descriptors and fixes.
  Layer 7, the document's side: which objects may be, but for how many bytes they have.
  Layer 7, the document's side: Encode and Right.
  Layer 7, the document's side: Decode, up to the sum.
  Layer 7, plain: the words of what is read are words.
  Layer 7, the document's side: Decode behind the sum.
-/
import Derived.Test.YtepgifapepaheaaDrl
import Derived.Test.YtepgifapepaheaaRst
import Derived.Test.YtepgifapepaheaaRhd
import Derived.Test.YtepgifapepaheaaMDct
import Derived.Test.YtepgifapepaheaaMDfi
import Derived.Test.YtepgifapepaheaaMDpl
import Derived.Test.YtepgifapepaheaaMDdd
import Derived.Test.YtepgifapepaheaaMDby
import Derived.Test.YtepgifapepaheaaMOneW
import Derived.Test.YtepgifapepaheaaDrf
import Derived.Test.YtepgifapepaheaaMDds
namespace Go.Proofs.Ytepgifapepaheaa
set_option linter.unusedVariables false
set_option linter.unusedSimpArgs false
open Go.ChangeShapes Go.WideShapes Go.ChangeAt Go.RowKit

theorem own_ty {X : World} {B : Nat} {E : TypeId} {k : Nat} {v : Value} {n : Nat} {xs : List Value} (h : X.ownsRow B E k v n xs) {g d : Nat} (hg : v.ownBlock = some g) {cs : Array Value} {t : TypeId} {fr : Nat × Nat} (hd : X.heap[d]? = some (.cells cs t fr)) (hne : E ≠ t) : g ≠ d := by
  rintro rfl
  rcases h.2 with ⟨hv, _⟩ | ⟨q, cap, cur, hv, _, hq, _⟩
  · rw [hv] at hg; cases hg
  · rw [hv] at hg
    simp only [Value.ownBlock, Option.some.injEq] at hg
    subst hg
    rw [hq] at hd
    injection hd with hd
    injection hd with _ hd _
    exact hne hd
/-- Kinds of rows. -/
def RowT (E : TypeId) : Prop := E = 59 ∨ E = 24 ∨ E = 3 ∨ E = 9 ∨ E = 4 ∨ E = 54 ∨ E = 56
theorem ObAt.tq3 {X Y : World} {B : Nat} {c : Oc} {o : Ob} {P : Nat → Prop} (h : ObAt X B c o) (t : Tq X Y P) (hp : ∀ (E : TypeId), RowT E → ∀ (B k : Nat) (v : Value) (n : Nat) (xs : List Value), X.ownsRow B E k v n xs → ∀ g, v.ownBlock = some g → ¬ P g) : ObAt Y B c o := by
  obtain ⟨l, h1, h2, h3⟩ := h.ds
  exact ⟨h.nm, h.key, h.ini, t.own h.im fun g hg => hp _ (by unfold RowT; simp) _ _ _ _ _ h.im g hg, t.own h.co fun g hg => hp _ (by unfold RowT; simp) _ _ _ _ _ h.co g hg, t.own h.pr fun g hg => hp _ (by unfold RowT; simp) _ _ _ _ _ h.pr g hg, t.own h.na fun g hg => hp _ (by unfold RowT; simp) _ _ _ _ _ h.na g hg, t.own h.ex fun g hg => hp _ (by unfold RowT; simp) _ _ _ _ _ h.ex g hg, t.own h.va fun g hg => hp _ (by unfold RowT; simp) _ _ _ _ _ h.va g hg, t.own h.sh fun g hg => hp _ (by unfold RowT; simp) _ _ _ _ _ h.sh g hg, t.own h.st fun g hg => hp _ (by unfold RowT; simp) _ _ _ _ _ h.st g hg,
    ⟨l, h1, t.own h2 fun g hg => hp _ (by unfold RowT; simp) _ _ _ _ _ h2 g hg, fun p hq => t.own (h3 p hq) fun g hg => hp _ (by unfold RowT; simp) _ _ _ _ _ (h3 p hq) g hg⟩, t.own h.fx fun g hg => hp _ (by unfold RowT; simp) _ _ _ _ _ h.fx g hg⟩
theorem rowT_obj {E : TypeId} (h : RowT E) : E ≠ 33 := by rcases h with rfl | rfl | rfl | rfl | rfl | rfl | rfl <;> decide
theorem rowT_rdr {E : TypeId} (h : RowT E) : E ≠ 51 := by rcases h with rfl | rfl | rfl | rfl | rfl | rfl | rfl <;> decide
/-- Between two rows. -/
structure GS (w X : World) (be ob B : Nat) (a : Option Addr) (len cap : Nat) (f : Nat → Int) (c : Oc) (o : Ob) (s : St) : Prop where
  rd : DRd X be a len cap f s
  bx : OAt X ob c
  rz : OAt X w.heap.size Oc.zero
  oo : ObAt X B c o
  bel : Below w.heap.size w X
  lo : w.heap.size < be ∧ w.heap.size < ob ∧ w.heap.size < B ∧ be ≠ ob
section
variable {w X X0 w1 : World} {be ob B len cap : Nat} {a : Option Addr} {f : Nat → Int} {c c' : Oc} {o o' : Ob} {s s1 : St}
theorem GS.pl (h : GS w X be ob B a len cap f c o s) (ha : ∀ x, a = some x → x.block < w.heap.size) : Pl X be ob w.heap.size a := by
  obtain ⟨l1, l2, l3, l4⟩ := h.lo
  have hz := h.bel.size
  exact ⟨l4, by omega, by omega, h.rd.bl, h.bx.lt, h.rz.lt, fun x hx => by have := ha x hx; exact ⟨by omega, by omega, by omega⟩⟩
theorem GS.li (h : GS w X be ob B a len cap f c o s) : LI X X be len cap a f ob w.heap.size c s := ⟨h.rd, h.bx, h.rz, ⟨rfl, rfl, rfl, Nat.le_refl _, fun _ _ _ => rfl⟩⟩
theorem GS.join (h : GS w X0 be ob B a len cap f c o s) (l : LI X0 X be len cap a f ob w.heap.size c' s1) (hob : ObAt X B c o → ObAt X B c' o') : GS w X be ob B a len cap f c' o' s1 := by
  obtain ⟨l1, l2, l3, l4⟩ := h.lo
  refine ⟨l.rd, l.bx, l.rz, hob (h.oo.tq3 l.tq fun E hE B k v n xs ho g hg e => ?_), Below.of_tq h.bel l.tq (fun k hk => by show ¬ (k = be ∨ k = ob); omega), h.lo⟩
  rcases e with e | e
  · exact own_ty ho hg h.rd.blk (rowT_rdr hE) e
  · exact own_ty ho hg h.bx (rowT_obj hE) e
theorem GS.read (h : GS w X be ob B a len cap f c o s) (ha : ∀ x, a = some x → x.block < w.heap.size) (hr : DRd w1 be a len cap f s1) (hg : X.grownBy w1 (some be)) : GS w w1 be ob B a len cap f c o s1 := h.join (h.li.read (h.pl ha) hr hg) id
/-- The answer is put into its cell. -/
theorem GS.put (h : GS w X be ob B a len cap f c o s) (c2 : Oc) : ∃ Z, (storeO ⟨w.heap.size, 0, none⟩ (.agg c2.cells)).run Try.prog X = .ok () Z ∧ Z.cell? ⟨be, 2, none⟩ = some (.int .i64 (badI s)) ∧ Hid (OAt Z w.heap.size c2 ∧ Below w.heap.size w Z ∧ ObAt Z B c o) := by
  obtain ⟨Z, z1, z2, z3⟩ := storeO_run h.rz c2
  have lo := h.lo
  refine ⟨Z, z1, (World.cell?_of_block (a := ⟨be, 2, none⟩) (z3.blk be h.rd.bl (by omega))).trans h.rd.c2, z2, Below.of_tq h.bel z3 (fun k hk => by omega), h.oo.tq z3 (fun k hk => by omega)⟩
theorem GS.drew (h : GS w X be ob B a len cap f c o s) : GS w X.drew be ob B a len cap f c o s := h.join h.li.drew id
end
/-- A thing that is filled, and rows of tags of things that are there. -/
structure QD (X0 X : World) (b len cap : Nat) (a : Option Addr) (f : Nat → Int) (ob rs : Nat) (c : Oc) (s : St) (D : Nat) (cs : Array Value) (v : Value) (n : Nat) (xs : List Value) (l : List ((Int × Int × List Int) × Sl)) : Prop where
  mi : MI X0 X b len cap a f ob rs c s D cs 54 54 3 v n xs
  ds : DsAt X X0.heap.size l
section
variable {X0 X X1 Y w1 : World} {b len cap : Nat} {a : Option Addr} {f : Nat → Int} {ob rs : Nat} {c : Oc} {s s1 : St} {D : Nat} {cs : Array Value} {v : Value} {n : Nat} {xs : List Value} {l : List ((Int × Int × List Int) × Sl)}
theorem QD.new (h : LI X0 X b len cap a f ob rs c s) (ho : X.ownsRow X0.heap.size 54 3 v n xs) (hd : DsAt X X0.heap.size l) (cs : Array Value) : QD X0 (X.alloc (.cells cs 54)) b len cap a f ob rs c s X.heap.size cs v n xs l := ⟨MI.new h ho cs _, fun p hp => (hd p hp).alloc _⟩
theorem QD.read (h : QD X0 X b len cap a f ob rs c s D cs v n xs l) (p : Pl X0 b ob rs a) (hr : DRd w1 b a len cap f s1) (hg : X.grownBy w1 (some b)) : QD X0 w1 b len cap a f ob rs c s1 D cs v n xs l := ⟨h.mi.read p hr hg, h.ds.gb p.lb hg⟩
theorem QD.set (h : QD X0 X b len cap a f ob rs c s D cs v n xs l) (p : Pl X0 b ob rs a) (j : Nat) (u : Value) : QD X0 (X.setCell ⟨D, j, none⟩ u) b len cap a f ob rs c s D (cs.setIfInBounds j u) v n xs l :=
  ⟨h.mi.set p j u, fun q hq => (Tq.set (P := fun g => g = D) rfl).own (h.ds q hq) fun g hg => own_ty (h.ds q hq) hg h.mi.bd (by decide)⟩
/-- Blocks that are new since X1 have turned. -/
theorem QD.far (h : QD X0 X b len cap a f ob rs c s D cs v n xs l) (p : Pl X0 b ob rs a) (hD : D < X1.heap.size) (h01 : X0.heap.size ≤ X1.heap.size) {g0 : Option Nat} (hg : X.grownBy Y g0) (hlo : ∀ g, g0 = some g → X1.heap.size ≤ g) (hv : ∀ g, g0 = some g → v.ownBlock ≠ some g) (hl : ∀ q ∈ l, ∀ g, g0 = some g → (Value.slice q.2.a q.2.n q.2.c).ownBlock ≠ some g) : QD X0 Y b len cap a f ob rs c s D cs v n xs l := by
  have t : Tq X Y (fun g => g0 = some g) := Tq.gb hg fun k e => e
  have p1 := p.lb
  have p2 := p.lo
  have p3 := p.lr
  refine ⟨⟨⟨h.mi.li.rd.tq t (fun e => by have := hlo _ e; omega) (fun ad he e => by have := hlo _ e; have := (p.ad ad he).2.2; omega), h.mi.li.bx.tq t (fun e => by have := hlo _ e; omega), h.mi.li.rz.tq t (fun e => by have := hlo _ e; omega), ?_⟩, t.own h.mi.ow (fun g hg e => hv g e hg), (t.blk D (Array.getElem?_eq_some_iff.1 h.mi.bd).1 (fun e => by have := hlo _ e; omega)).trans h.mi.bd, h.mi.lo, h.mi.ne⟩, fun q hq => t.own (h.ds q hq) (fun g hg e => hl q hq g e hg)⟩
  refine ((h.mi.li.tq.mono (Q := fun y => (y = b ∨ y = ob) ∨ X0.heap.size ≤ y) fun k _ e => .inl e).trans (t.mono fun k _ e => .inr (by have := hlo k e; omega))).mono fun k hk e => ?_
  rcases e with e | e
  · exact e
  · omega
end
/-- .. and the tags of the one that is filled, in a row that is new since X1. -/
structure ND (X0 X1 X : World) (b len cap : Nat) (a : Option Addr) (f : Nat → Int) (ob rs : Nat) (c : Oc) (s : St) (D : Nat) (y0 y1 : Int) (st : Sl) (tags : List Int) (v : Value) (n : Nat) (xs : List Value) (l : List ((Int × Int × List Int) × Sl)) : Prop where
  qi : QD X0 X b len cap a f ob rs c s D #[.int .i64 y0, .int .i64 y1, .slice st.a st.n st.c] v n xs l
  tg : X.ownsRow X1.heap.size 3 1 (.slice st.a st.n st.c) tags.length (tags.map (Value.int .i64))
  lt : ∀ q ∈ l, ∀ g, (Value.slice q.2.a q.2.n q.2.c).ownBlock = some g → g < X1.heap.size
  sz : X1.heap.size ≤ X.heap.size
section
variable {X0 X X1 w1 : World} {b len cap : Nat} {a : Option Addr} {f : Nat → Int} {ob rs : Nat} {c : Oc} {s s1 : St} {D : Nat} {y0 y1 : Int} {st : Sl} {tags : List Int} {v : Value} {n : Nat} {xs : List Value} {l : List ((Int × Int × List Int) × Sl)}
theorem ND.new (h : QD X0 X b len cap a f ob rs c s D #[.int .i64 y0, .int .i64 y1, .slice none 0 0] v n xs l) : ND X0 X X b len cap a f ob rs c s D y0 y1 ⟨none, 0, 0⟩ [] v n xs l := ⟨h, own_nil _ _ _ _, fun q hq g hg => ((h.ds q hq).lt g hg).2, Nat.le_refl _⟩
theorem ND.read (h : ND X0 X1 X b len cap a f ob rs c s D y0 y1 st tags v n xs l) (p : Pl X0 b ob rs a) (hb : b < X1.heap.size) (hr : DRd w1 b a len cap f s1) (hg : X.grownBy w1 (some b)) : ND X0 X1 w1 b len cap a f ob rs c s1 D y0 y1 st tags v n xs l := ⟨h.qi.read p hr hg, own_gb h.tg hb hg, h.lt, Nat.le_trans h.sz hg.size⟩
theorem ND.drew (h : ND X0 X1 X b len cap a f ob rs c s D y0 y1 st tags v n xs l) (p : Pl X0 b ob rs a) (hb : b < X1.heap.size) : ND X0 X1 X.drew b len cap a f ob rs c s D y0 y1 st tags v n xs l := h.read p hb (h.qi.mi.li.rd.below (Below.refl _ _).drew) (gb_of_below (Below.refl X.heap.size X).drew b)
theorem ND.app (h : ND X0 X1 X b len cap a f ob rs c s D y0 y1 st tags v n xs l) (p : Pl X0 b ob rs a) (hD : D < X1.heap.size) (h01 : X0.heap.size ≤ X1.heap.size) (x : Int) (hn : tags.length ≤ 1000) : ∃ (s' : Sl) (Y : World), (appN #[27, 27] 27 #[.slice st.a st.n st.c, .slice (some ⟨X.heap.size, 0, none⟩) 1 1]).run Try.prog (X.alloc (.cells #[.int .i64 x] 3)) = .ok (.slice s'.a s'.n s'.c) Y ∧ Y.cell? ⟨D, 2, none⟩ = some (.slice st.a st.n st.c) ∧ Y.frozen? ⟨D, 2, none⟩ = false ∧ X.cell? ⟨D, 2, none⟩ = some (.slice st.a st.n st.c) ∧ (X.alloc (.cells #[.int .i64 x] 3)).cell? ⟨D, 2, none⟩ = some (.slice st.a st.n st.c) ∧ Hid (ND X0 X1 (Y.setCell ⟨D, 2, none⟩ (.slice s'.a s'.n s'.c)) b len cap a f ob rs c s D y0 y1 s' (tags ++ [x]) v n xs l) := by
  obtain ⟨i0, hi0, hz0, hz1, hz2⟩ := info_parts info_int
  obtain ⟨s', Y, r1, r2, r3⟩ := app_el Try.underlying27 hi0 hz0 hz1 hz2 rfl (by omega) (by omega) #[.int .i64 x] rfl (by intro u hu; simp at hu; subst hu; rfl) h.tg h.sz (by omega)
  have bA : Below X.heap.size X (X.alloc (.cells #[.int .i64 x] 3)) := (Below.refl _ _).alloc (Nat.le_refl _) _
  have qA : QD X0 (X.alloc (.cells #[.int .i64 x] 3)) b len cap a f ob rs c s D #[.int .i64 y0, .int .i64 y1, .slice st.a st.n st.c] v n xs l := h.qi.read p (h.qi.mi.li.rd.below bA) (gb_of_below bA b)
  have hlo : ∀ g, (Value.slice st.a st.n st.c).ownBlock = some g → X1.heap.size ≤ g := fun g hg => own_lo h.tg g hg
  have tA : (X.alloc (.cells #[.int .i64 x] 3)).ownsRow X1.heap.size 3 1 (.slice st.a st.n st.c) tags.length (tags.map (Value.int .i64)) := h.tg.alloc _
  have qY : QD X0 Y b len cap a f ob rs c s D #[.int .i64 y0, .int .i64 y1, .slice st.a st.n st.c] v n xs l := qA.far (X1 := X1) p hD h01 r3 hlo (fun g hg e => own_two tA qA.mi.ow (by decide) hg e) (fun q hq g hg e => by have := h.lt q hq g e; have := hlo g hg; omega)
  have qS := qY.set p 2 (.slice s'.a s'.n s'.c)
  refine ⟨s', Y, r1, qY.mi.cell 2, qY.mi.fz 2, h.qi.mi.cell 2, qA.mi.cell 2, ⟨qS, ?_, h.lt, ?_⟩⟩
  · have := (Tq.set (P := fun g => g = D) (X := Y) (j := 2) (v := .slice s'.a s'.n s'.c) rfl).own r2 (fun g hg => by have := own_lo r2 g hg; omega)
    rw [List.length_append, List.map_append]
    exact this
  · have := r3.size
    have h1 := h.sz
    simp at this ⊢
    omega
end
theorem Lp.next2 {α : Type} {rd : St → α × St} {R : List α × St} {m : Nat} {acc : List α} {s : St} (h : Lp rd R (m + 1) acc s) (hs : s.st = false) {x : α} {s2 : St} (h2 : (rd s).2 = s2) (hx : s2.st = false → x = (rd s).1) : Lp rd R m (acc ++ [x]) s2 := by
  have hn := h.next hs
  rw [h2] at hn
  cases hst : s2.st
  · rw [hx hst]; exact hn
  · rcases hn with ⟨e, _⟩ | ⟨e1, e2⟩
    · rw [hst] at e; cases e
    · exact .inr ⟨e1, e2⟩
end Go.Proofs.Ytepgifapepaheaa

namespace Go.Proofs.Ytepgifapepaheaa
set_option linter.unusedVariables false
set_option linter.unusedSimpArgs false
open Go.ChangeShapes Go.WideShapes Go.ChangeAt Go.RowKit
attribute [local go_sem] Oc.at0 Oc.at1 Oc.at2 Oc.at3 Oc.at4 Oc.at5 Oc.at6 Oc.at7 Oc.at8 Oc.at9 Oc.at10 Oc.at11 Oc.at12
attribute [local go_sem ↓] loadO_seal

def loadF (a : Addr) : Sem Value := loadVar 56 a
theorem loadF_seal (a : Addr) : loadVar 56 a = loadF a := rfl
theorem loadF_run {X : World} {g off : Nat} {a b c d : Value} (h0 : X.cell? ⟨g, off, none⟩ = some a) (h1 : X.cell? ⟨g, off + 1, none⟩ = some b) (h2 : X.cell? ⟨g, off + 2, none⟩ = some c) (h3 : X.cell? ⟨g, off + 3, none⟩ = some d) : (loadF ⟨g, off, none⟩).run Try.prog X = .ok (.agg #[a, b, c, d]) X := by
  unfold loadF
  go_simp
theorem counts_imps {o : Ob} (h : countsB o = true) : o.imps.length ≤ 16 := by
  unfold countsB at h
  simp only [Bool.and_eq_true, decide_eq_true_eq] at h
  omega
attribute [local go_sem ↓] loadF_seal
/-- One fix and its place. -/
def fixAt (o : Ob) (i : Nat) : Bool := rfixB o (o.fixes.getD i (0, 0, 0, 0)) && (decide (i = 0) || decide ((o.fixes.getD (i - 1) (0, 0, 0, 0)).1 < (o.fixes.getD i (0, 0, 0, 0)).1))
set_option maxHeartbeats 40000000 in
set_option maxRecDepth 20000 in
theorem rwithin_any (w : World) (c : Oc) (o : Ob) (h : ObR w c o) : Calls Try.prog 74 #[.agg c.cells] w fun e w' => e = .returned (.bool (withinB o)) ∧ Below w.heap.size w w' := by
  have O0 : Hid (OB w (w.alloc (.cells c.cells 33)) c) := hid_of (Below.refl _ _)
  have LO : Hid (∀ X, OB w X c → (loadO ⟨w.heap.size, 0, none⟩).run Try.prog X = .ok (.agg c.cells) X ∧ X.cell? ⟨w.heap.size, 11, none⟩ = some (.slice c.ds.a c.ds.n c.ds.c) ∧ X.cell? ⟨w.heap.size, 12, none⟩ = some (.slice c.fx.a c.fx.n c.fx.c)) := fun X a => ⟨loadO_run a.bx, blk_cell a.bx 11, blk_cell a.bx 12⟩
  have H1 : Hid (∀ X, OB w X c → Calls Try.prog 81 #[.agg c.cells] X fun e Y => e = .returned (.bool (countsB o)) ∧ OB w Y c) := fun X a => (rcounts_any X c o (h.below a.bel)).mono fun e Y hh => ⟨hh.1, Below.trans a (hh.2.mono a.size)⟩
  have H2 : Hid (countsB o = true → ∀ X, OB w X c → Calls Try.prog 82 #[.agg c.cells] X fun e Y => e = .returned (.bool (plainB o)) ∧ OB w Y c) := fun hc X a => (rplain_any X c o (h.below a.bel) (counts_imps hc)).mono fun e Y hh => ⟨hh.1, Below.trans a (hh.2.mono a.size)⟩
  have H3 : Hid (∀ X, OB w X c → Calls Try.prog 83 #[.slice c.ds.a c.ds.n c.ds.c] X fun e Y => e = .returned (.bool (rdescsB o.descs)) ∧ OB w Y c) := fun X a => by
    obtain ⟨l, e1, e2, e3⟩ := h.ds
    rw [← e1]
    exact (rdescs_any X c.ds l (e2.below a.bel) (fun p hp => (e3 p hp).below a.bel)).mono fun e Y hh => ⟨hh.1, Below.trans a (hh.2.mono a.size)⟩
  have H4 : Hid (∀ X x, OB w X c → Calls Try.prog 84 #[.agg c.cells, .agg (xEnc x)] X fun e Y => e = .returned (.bool (rfixB o x)) ∧ OB w Y c) := fun X x a => (rfix_any X c o (h.below a.bel) x).mono fun e Y hh => ⟨hh.1, Below.trans a (hh.2.mono a.size)⟩
  obtain ⟨P, hP⟩ : ∃ P, P = withinB o := ⟨_, rfl⟩
  rw [← hP]
  have PL : Hid (P = (countsB o && (plainB o && (rdescsB o.descs && (List.range o.fixes.length).all fun i => fixAt o i)))) := hid_of hP
  clear hP
  have n_fx := h.fx.len
  have m_fx : c.fx.n ≤ 140737488355328 := by rw [n_fx]; exact h.fx.most
  have NFX := hid_of n_fx
  have HR := hid_of h
  clear h n_fx
  obtain ⟨q0, q1, q2⟩ := LO.out _ O0.out
  cases b1 : countsB o
  · have HX : Hid (P = false) := hid_of (by rw [PL.out, b1]; rfl)
    rw [b1] at H1
    clear H2 H3 H4
    go_enter Try.func74, Try.ntmps74
    go_wp2_with (go_at_call 81; refine (H1.out _ O0.out).mono ?_; rintro e w1 ⟨rfl, h1⟩)
    go_ret
    exact ⟨ret_bool HX.out.symm, h1.bel⟩
  have H2 := hid_of (H2.out b1)
  rw [b1] at H1 PL
  generalize plainB o = b2 at H2 PL
  cases b2
  · have HX : Hid (P = false) := hid_of (by rw [PL.out]; rfl)
    clear H3 H4
    go_enter Try.func74, Try.ntmps74
    go_wp2_with (first
      | (go_at_call 81; refine (H1.out _ O0.out).mono ?_; rintro e w1 ⟨rfl, h1⟩; obtain ⟨q3, q4, q5⟩ := LO.out _ h1; have G1 := hid_of h1; clear h1)
      | (go_at_call 82; refine (H2.out _ G1.out).mono ?_; rintro e w2 ⟨rfl, h2⟩))
    go_ret
    exact ⟨ret_bool HX.out.symm, h2.bel⟩
  generalize rdescsB o.descs = b3 at H3 PL
  cases b3
  · have HX : Hid (P = false) := hid_of (by rw [PL.out]; rfl)
    clear H4
    go_enter Try.func74, Try.ntmps74
    go_wp2_with (first
      | (go_at_call 81; refine (H1.out _ O0.out).mono ?_; rintro e w1 ⟨rfl, h1⟩; obtain ⟨q3, q4, q5⟩ := LO.out _ h1; have G1 := hid_of h1; clear h1)
      | (go_at_call 82; refine (H2.out _ G1.out).mono ?_; rintro e w2 ⟨rfl, h2⟩; obtain ⟨q6, q7, q8⟩ := LO.out _ h2; have G2 := hid_of h2; clear h2)
      | (go_at_call 83; refine (H3.out _ G2.out).mono ?_; rintro e w3 ⟨rfl, h3⟩))
    go_ret
    exact ⟨ret_bool HX.out.symm, h3.bel⟩
  have PL2 : Hid (P = (List.range o.fixes.length).all fun i => fixAt o i) := hid_of PL.out
  clear PL b1
  go_enter Try.func74, Try.ntmps74
  go_wp2_with (first
    | (go_at_call 81; refine (H1.out _ O0.out).mono ?_; rintro e w1 ⟨rfl, h1⟩; obtain ⟨q3, q4, q5⟩ := LO.out _ h1; have G1 := hid_of h1; clear h1)
    | (go_at_call 82; refine (H2.out _ G1.out).mono ?_; rintro e w2 ⟨rfl, h2⟩; obtain ⟨q6, q7, q8⟩ := LO.out _ h2; have G2 := hid_of h2; clear h2)
    | (go_at_call 83; refine (H3.out _ G2.out).mono ?_; rintro e w3 ⟨rfl, h3⟩; have G3 := hid_of h3; clear h3))
  clear G1 G2 H1 H2 H3 q0 q1 q2 q3 q4 q5 q6 q7 q8 O0
  go_loopg [6] c.fx.n (fun gf s4 wx => ∃ i : Nat, s4 = .int .i64 (i : Int) ∧ i + gf = c.fx.n ∧ Hid (OB w wx c) ∧ Hid (∀ j, j < i → fixAt o j = true))
  case atStart => exact ⟨0, rfl, by omega, G3.out, fun j hj => by omega⟩
  case round =>
    clear G3
    obtain ⟨i, rfl, hi, HB, HP⟩ := hrel
    obtain ⟨r0, r11, r12⟩ := LO.out _ HB.out
    by_cases hlt : i < c.fx.n
    · obtain ⟨g', rfl⟩ : ∃ g', gk = g' + 1 := ⟨gk - 1, by omega⟩
      have d1 : decide ((i : Int) < (c.fx.n : Int)) = true := decide_eq_true (by omega)
      have j0 : (0 : Int) ≤ (i : Int) := by omega
      have j1 : (i : Int) < (c.fx.n : Int) := by omega
      have HI : Hid (i < o.fixes.length) := hid_of (by rw [← NFX.out]; exact hlt)
      obtain ⟨b, off, ha, hc⟩ := elk HR.out.fx (fun _ => rfl) (0, 0, 0, 0) i HI.out
      have PV : Hid (∀ k, i = k + 1 → ∀ X, Below w.heap.size w X → X.cell? ⟨b, off + k * 4, none⟩ = some (.int .i64 (o.fixes.getD k (0, 0, 0, 0)).1)) := fun k hk X hX => by
        obtain ⟨b2, off2, ha2, hc2⟩ := elk HR.out.fx (fun _ => rfl) (0, 0, 0, 0) k (by have := HI.out; omega)
        rw [ha] at ha2
        injection ha2 with ha2; injection ha2 with h3 h4 _
        subst h3; subst h4
        exact hc2 X hX 0 (by omega)
      have FA : Hid (fixAt o i = (rfixB o (o.fixes.getD i (0, 0, 0, 0)) && (decide (i = 0) || decide ((o.fixes.getD (i - 1) (0, 0, 0, 0)).1 < (o.fixes.getD i (0, 0, 0, 0)).1)))) := hid_of rfl
      have HX : Hid (fixAt o i = false → P = false) := fun hx => by rw [PL2.out, all_not (P := fun i => fixAt o i) HI.out hx]
      have HY : Hid (fixAt o i = true → ∀ j, j < i + 1 → fixAt o j = true) := fun hx j hj => by
        rcases Nat.lt_or_ge j i with q | q
        · exact HP.out j q
        · have : j = i := by omega
          rw [this]; exact hx
      have CF := hid_of (H4.out · (o.fixes.getD i (0, 0, 0, 0)) ·)
      generalize o.fixes.getD i (0, 0, 0, 0) = x at hc FA CF
      obtain ⟨y0, y1, y2, y3⟩ := x
      have CE : Hid (∀ X, OB w X c → X.cell? ⟨w.heap.size, 12, none⟩ = some (.slice (some ⟨b, off, none⟩) c.fx.n c.fx.c) ∧ X.cell? ⟨b, off + i * 4, none⟩ = some (.int .i64 y0) ∧ (loadF ⟨b, off + i * 4, none⟩).run Try.prog X = .ok (.agg #[.int .i64 y0, .int .i64 y1, .int .i64 y2, .int .i64 y3]) X ∧ (loadO ⟨w.heap.size, 0, none⟩).run Try.prog X = .ok (.agg c.cells) X) := fun X a => by
        have e0 : X.cell? ⟨b, off + i * 4, none⟩ = some (.int .i64 y0) := hc X a.bel 0 (by omega)
        have e1 : X.cell? ⟨b, off + i * 4 + 1, none⟩ = some (.int .i64 y1) := hc X a.bel 1 (by omega)
        have e2 : X.cell? ⟨b, off + i * 4 + 2, none⟩ = some (.int .i64 y2) := hc X a.bel 2 (by omega)
        have e3 : X.cell? ⟨b, off + i * 4 + 3, none⟩ = some (.int .i64 y3) := hc X a.bel 3 (by omega)
        exact ⟨by rw [(LO.out X a).2.2, ha], e0, loadF_run e0 e1 e2 e3, (LO.out X a).1⟩
      have CF : Hid (∀ X, OB w X c → Calls Try.prog 84 #[.agg c.cells, .agg #[.int .i64 y0, .int .i64 y1, .int .i64 y2, .int .i64 y3]] X fun e Y => e = .returned (.bool (rfixB o (y0, y1, y2, y3))) ∧ OB w Y c) := CF
      clear hc r0 r11
      rw [ha] at r12
      clear ha
      have hS : OB w wr.drew c := OB.drew HB.out
      generalize rfixB o (y0, y1, y2, y3) = fb at CF FA
      cases fb
      · have HF := hid_of (HX.out (by rw [FA.out]; rfl))
        clear HX HY HP FA PV
        go_wp2
        refine wp_region_held_drew (S := (fun X => OB w X c)) (by kernel_rfl) hS (fun hHeld => ?_)
        refine wpAnyH_take (i := 0) (v := ?_) rfl (by kernel_rfl) (by kernel_rfl) (by kernel_rfl) (fun _ _ _ h => h) (Or.inl ⟨by kernel_rfl, ?y0n⟩) hHeld ?r0n
        case y0n => (intro wq hSw; have q1 := (CE.out wq hSw).2.2.2; go_simp; try rfl)
        simp only [Act.put, List.setIfInBounds_toArray, List.set_cons_zero, List.set_cons_succ]
        refine wpAnyH_take (i := 1) (v := ?_) rfl (by kernel_rfl) (by kernel_rfl) (by kernel_rfl) (fun _ _ _ h => h) (Or.inl ⟨by kernel_rfl, ?y1n⟩) hHeld ?r1n
        case y1n => (intro wq hSw; go_simp; try rfl)
        simp only [Act.put, List.setIfInBounds_toArray, List.set_cons_zero, List.set_cons_succ]
        refine wpAnyH_take (i := 2) (v := ?_) rfl (by kernel_rfl) (by kernel_rfl) (by kernel_rfl) (fun _ _ _ h => h) (Or.inl ⟨by kernel_rfl, ?y2n⟩) hHeld ?r2n
        case y2n => (intro wq hSw; have q1 := (CE.out wq hSw).1; go_simp; try rfl)
        simp only [Act.put, List.setIfInBounds_toArray, List.set_cons_zero, List.set_cons_succ]
        refine wpAnyH_take (i := 3) (v := ?_) rfl (by kernel_rfl) (by kernel_rfl) (by kernel_rfl) (fun _ _ _ h => h) (Or.inl ⟨by kernel_rfl, ?y3n⟩) hHeld ?r3n
        case y3n => (intro wq hSw; go_simp; try rfl)
        simp only [Act.put, List.setIfInBounds_toArray, List.set_cons_zero, List.set_cons_succ]
        refine wpAnyH_take (i := 4) (v := ?_) rfl (by kernel_rfl) (by kernel_rfl) (by kernel_rfl) (fun _ _ _ h => h) (Or.inl ⟨by kernel_rfl, ?y4n⟩) hHeld ?r4n
        case y4n => (intro wq hSw; go_simp; try rfl)
        simp only [Act.put, List.setIfInBounds_toArray, List.set_cons_zero, List.set_cons_succ]
        refine wpAnyH_take (i := 5) (v := ?_) rfl (by kernel_rfl) (by kernel_rfl) (by kernel_rfl) (fun _ _ _ h => h) (Or.inl ⟨by kernel_rfl, ?y5n⟩) hHeld ?r5n
        case y5n => (intro wq hSw; have q1 := (CE.out wq hSw).2.2.1; go_simp; try rfl)
        simp only [Act.put, List.setIfInBounds_toArray, List.set_cons_zero, List.set_cons_succ]
        refine wpAnyH_ready (rs := [6]) (by kernel_rfl) (by simp) ?_
        refine AllReadyH.cons rfl (fun K hK => ?_) AllReadyH.nil
        go_simp
        go_wp2_with (go_at_call 84; refine (CF.out _ hHeld).mono ?_; rintro e w5 ⟨rfl, h5⟩; have H5 := hid_of h5)
        refine hK.out _ _ h5 (fun _ => ?_)
        clear hK K
        refine wpAnyH_ready (rs := [7]) (by kernel_rfl) (by simp) ?_
        refine AllReadyH.cons rfl (fun K hK => ?_) AllReadyH.nil
        go_simp
        refine hK.out _ _ h5 (fun _ => ?_)
        clear hK K
        refine wpAnyH_done (by kernel_rfl) ?_ _
        clear hHeld hS
        obtain ⟨p12, p0, _, _⟩ := CE.out _ H5.out
        clear CE h5
        go_wp2_with fail
        go_region
        all_goals
          go_wp2
          go_ret
          exact ⟨ret_bool HF.out.symm, H5.out.bel.drew⟩
      by_cases hz : i = 0
      · have HG := hid_of (HY.out (by rw [FA.out, hz]; rfl))
        have z0 : decide ((0 : Int) < (i : Int)) = false := decide_eq_false (by omega)
        have z1 : ¬ 0 < i := by omega
        have z2 : decide (0 < i) = false := decide_eq_false z1
        clear HX HY HP FA PV hz
        go_wp2
        refine wp_region_held_drew (S := (fun X => OB w X c)) (by kernel_rfl) hS (fun hHeld => ?_)
        refine wpAnyH_take (i := 0) (v := ?_) rfl (by kernel_rfl) (by kernel_rfl) (by kernel_rfl) (fun _ _ _ h => h) (Or.inl ⟨by kernel_rfl, ?y0z⟩) hHeld ?r0z
        case y0z => (intro wq hSw; have q1 := (CE.out wq hSw).2.2.2; go_simp; try rfl)
        simp only [Act.put, List.setIfInBounds_toArray, List.set_cons_zero, List.set_cons_succ]
        refine wpAnyH_take (i := 1) (v := ?_) rfl (by kernel_rfl) (by kernel_rfl) (by kernel_rfl) (fun _ _ _ h => h) (Or.inl ⟨by kernel_rfl, ?y1z⟩) hHeld ?r1z
        case y1z => (intro wq hSw; go_simp; try rfl)
        simp only [Act.put, List.setIfInBounds_toArray, List.set_cons_zero, List.set_cons_succ]
        refine wpAnyH_take (i := 2) (v := ?_) rfl (by kernel_rfl) (by kernel_rfl) (by kernel_rfl) (fun _ _ _ h => h) (Or.inl ⟨by kernel_rfl, ?y2z⟩) hHeld ?r2z
        case y2z => (intro wq hSw; have q1 := (CE.out wq hSw).1; go_simp; try rfl)
        simp only [Act.put, List.setIfInBounds_toArray, List.set_cons_zero, List.set_cons_succ]
        refine wpAnyH_take (i := 3) (v := ?_) rfl (by kernel_rfl) (by kernel_rfl) (by kernel_rfl) (fun _ _ _ h => h) (Or.inl ⟨by kernel_rfl, ?y3z⟩) hHeld ?r3z
        case y3z => (intro wq hSw; go_simp; try rfl)
        simp only [Act.put, List.setIfInBounds_toArray, List.set_cons_zero, List.set_cons_succ]
        refine wpAnyH_take (i := 4) (v := ?_) rfl (by kernel_rfl) (by kernel_rfl) (by kernel_rfl) (fun _ _ _ h => h) (Or.inl ⟨by kernel_rfl, ?y4z⟩) hHeld ?r4z
        case y4z => (intro wq hSw; go_simp; try rfl)
        simp only [Act.put, List.setIfInBounds_toArray, List.set_cons_zero, List.set_cons_succ]
        refine wpAnyH_take (i := 5) (v := ?_) rfl (by kernel_rfl) (by kernel_rfl) (by kernel_rfl) (fun _ _ _ h => h) (Or.inl ⟨by kernel_rfl, ?y5z⟩) hHeld ?r5z
        case y5z => (intro wq hSw; have q1 := (CE.out wq hSw).2.2.1; go_simp; try rfl)
        simp only [Act.put, List.setIfInBounds_toArray, List.set_cons_zero, List.set_cons_succ]
        refine wpAnyH_ready (rs := [6]) (by kernel_rfl) (by simp) ?_
        refine AllReadyH.cons rfl (fun K hK => ?_) AllReadyH.nil
        go_simp
        go_wp2_with (go_at_call 84; refine (CF.out _ hHeld).mono ?_; rintro e w5 ⟨rfl, h5⟩; have H5 := hid_of h5)
        refine hK.out _ _ h5 (fun _ => ?_)
        clear hK K
        refine wpAnyH_ready (rs := [7]) (by kernel_rfl) (by simp) ?_
        refine AllReadyH.cons rfl (fun K hK => ?_) AllReadyH.nil
        go_simp
        refine hK.out _ _ h5 (fun _ => ?_)
        clear hK K
        refine wpAnyH_done (by kernel_rfl) ?_ _
        clear hHeld hS
        obtain ⟨p12, p0, _, _⟩ := CE.out _ H5.out
        clear CE h5
        go_wp2_with fail
        go_region
        all_goals
          go_wp2
          go_roundg g'
          case measure => omega
          case rel => exact ⟨i + 1, by simp, by omega, OB.drew H5.out, HG.out⟩
      obtain ⟨k, rfl⟩ : ∃ k, i = k + 1 := ⟨i - 1, by omega⟩
      have z0 : decide ((0 : Int) < ((k + 1 : Nat) : Int)) = true := decide_eq_true (by omega)
      have z1 : decide ((0 : Int) < (k : Int) + 1) = true := decide_eq_true (by omega)
      have e1 : IntKind.i64.wrap (((k + 1 : Nat) : Int) - 1) = (k : Int) := by rw [IntWalk.i64_left, IntWalk.wrap64_in] <;> omega
      have e2w : IntKind.i64.wrap (k : Int) = (k : Int) := by rw [IntWalk.i64_left, IntWalk.wrap64_in] <;> omega
      have m0 : (0 : Int) ≤ (k : Int) := by omega
      have m1 : (k : Int) < (c.fx.n : Int) := by omega
      have m3 : (0 : Int) ≤ (k : Int) + 1 := by omega
      have m4 : (k : Int) + 1 < (c.fx.n : Int) := by omega
      have PV := hid_of (PV.out k rfl)
      have FA : Hid (fixAt o (k + 1) = decide ((o.fixes.getD k (0, 0, 0, 0)).1 < y0)) := hid_of (by rw [FA.out]; simp)
      generalize (o.fixes.getD k (0, 0, 0, 0)).1 = y at PV FA
      clear hz
      by_cases c3 : y0 ≤ y
      · have f3 : decide (y0 ≤ y) = true := decide_eq_true c3
        have HF := hid_of (HX.out (by rw [FA.out]; exact decide_eq_false (by omega)))
        clear HX HY HP FA
        go_wp2
        refine wp_region_held_drew (S := (fun X => OB w X c)) (by kernel_rfl) hS (fun hHeld => ?_)
        refine wpAnyH_take (i := 0) (v := ?_) rfl (by kernel_rfl) (by kernel_rfl) (by kernel_rfl) (fun _ _ _ h => h) (Or.inl ⟨by kernel_rfl, ?y0f⟩) hHeld ?r0f
        case y0f => (intro wq hSw; have q1 := (CE.out wq hSw).2.2.2; go_simp; try rfl)
        simp only [Act.put, List.setIfInBounds_toArray, List.set_cons_zero, List.set_cons_succ]
        refine wpAnyH_take (i := 1) (v := ?_) rfl (by kernel_rfl) (by kernel_rfl) (by kernel_rfl) (fun _ _ _ h => h) (Or.inl ⟨by kernel_rfl, ?y1f⟩) hHeld ?r1f
        case y1f => (intro wq hSw; go_simp; try rfl)
        simp only [Act.put, List.setIfInBounds_toArray, List.set_cons_zero, List.set_cons_succ]
        refine wpAnyH_take (i := 2) (v := ?_) rfl (by kernel_rfl) (by kernel_rfl) (by kernel_rfl) (fun _ _ _ h => h) (Or.inl ⟨by kernel_rfl, ?y2f⟩) hHeld ?r2f
        case y2f => (intro wq hSw; have q1 := (CE.out wq hSw).1; go_simp; try rfl)
        simp only [Act.put, List.setIfInBounds_toArray, List.set_cons_zero, List.set_cons_succ]
        refine wpAnyH_take (i := 3) (v := ?_) rfl (by kernel_rfl) (by kernel_rfl) (by kernel_rfl) (fun _ _ _ h => h) (Or.inl ⟨by kernel_rfl, ?y3f⟩) hHeld ?r3f
        case y3f => (intro wq hSw; go_simp; try rfl)
        simp only [Act.put, List.setIfInBounds_toArray, List.set_cons_zero, List.set_cons_succ]
        refine wpAnyH_take (i := 4) (v := ?_) rfl (by kernel_rfl) (by kernel_rfl) (by kernel_rfl) (fun _ _ _ h => h) (Or.inl ⟨by kernel_rfl, ?y4f⟩) hHeld ?r4f
        case y4f => (intro wq hSw; go_simp; try rfl)
        simp only [Act.put, List.setIfInBounds_toArray, List.set_cons_zero, List.set_cons_succ]
        refine wpAnyH_take (i := 5) (v := ?_) rfl (by kernel_rfl) (by kernel_rfl) (by kernel_rfl) (fun _ _ _ h => h) (Or.inl ⟨by kernel_rfl, ?y5f⟩) hHeld ?r5f
        case y5f => (intro wq hSw; have q1 := (CE.out wq hSw).2.2.1; go_simp; try rfl)
        simp only [Act.put, List.setIfInBounds_toArray, List.set_cons_zero, List.set_cons_succ]
        refine wpAnyH_ready (rs := [6]) (by kernel_rfl) (by simp) ?_
        refine AllReadyH.cons rfl (fun K hK => ?_) AllReadyH.nil
        go_simp
        go_wp2_with (go_at_call 84; refine (CF.out _ hHeld).mono ?_; rintro e w5 ⟨rfl, h5⟩; have H5 := hid_of h5)
        refine hK.out _ _ h5 (fun _ => ?_)
        clear hK K
        refine wpAnyH_ready (rs := [7]) (by kernel_rfl) (by simp) ?_
        refine AllReadyH.cons rfl (fun K hK => ?_) AllReadyH.nil
        go_simp
        refine hK.out _ _ h5 (fun _ => ?_)
        clear hK K
        refine wpAnyH_done (by kernel_rfl) ?_ _
        clear hHeld hS
        obtain ⟨p12, p0, _, _⟩ := CE.out _ H5.out
        clear CE h5
        have kp := PV.out _ H5.out.bel
        go_wp2_with fail
        go_region
        all_goals
          go_wp2
          go_ret
          exact ⟨ret_bool HF.out.symm, H5.out.bel.drew⟩
      have f3 : decide (y0 ≤ y) = false := decide_eq_false c3
      have HG := hid_of (HY.out (by rw [FA.out]; exact decide_eq_true (by omega)))
      clear HX HY HP FA
      go_wp2
      refine wp_region_held_drew (S := (fun X => OB w X c)) (by kernel_rfl) hS (fun hHeld => ?_)
      refine wpAnyH_take (i := 0) (v := ?_) rfl (by kernel_rfl) (by kernel_rfl) (by kernel_rfl) (fun _ _ _ h => h) (Or.inl ⟨by kernel_rfl, ?y0g⟩) hHeld ?r0g
      case y0g => (intro wq hSw; have q1 := (CE.out wq hSw).2.2.2; go_simp; try rfl)
      simp only [Act.put, List.setIfInBounds_toArray, List.set_cons_zero, List.set_cons_succ]
      refine wpAnyH_take (i := 1) (v := ?_) rfl (by kernel_rfl) (by kernel_rfl) (by kernel_rfl) (fun _ _ _ h => h) (Or.inl ⟨by kernel_rfl, ?y1g⟩) hHeld ?r1g
      case y1g => (intro wq hSw; go_simp; try rfl)
      simp only [Act.put, List.setIfInBounds_toArray, List.set_cons_zero, List.set_cons_succ]
      refine wpAnyH_take (i := 2) (v := ?_) rfl (by kernel_rfl) (by kernel_rfl) (by kernel_rfl) (fun _ _ _ h => h) (Or.inl ⟨by kernel_rfl, ?y2g⟩) hHeld ?r2g
      case y2g => (intro wq hSw; have q1 := (CE.out wq hSw).1; go_simp; try rfl)
      simp only [Act.put, List.setIfInBounds_toArray, List.set_cons_zero, List.set_cons_succ]
      refine wpAnyH_take (i := 3) (v := ?_) rfl (by kernel_rfl) (by kernel_rfl) (by kernel_rfl) (fun _ _ _ h => h) (Or.inl ⟨by kernel_rfl, ?y3g⟩) hHeld ?r3g
      case y3g => (intro wq hSw; go_simp; try rfl)
      simp only [Act.put, List.setIfInBounds_toArray, List.set_cons_zero, List.set_cons_succ]
      refine wpAnyH_take (i := 4) (v := ?_) rfl (by kernel_rfl) (by kernel_rfl) (by kernel_rfl) (fun _ _ _ h => h) (Or.inl ⟨by kernel_rfl, ?y4g⟩) hHeld ?r4g
      case y4g => (intro wq hSw; go_simp; try rfl)
      simp only [Act.put, List.setIfInBounds_toArray, List.set_cons_zero, List.set_cons_succ]
      refine wpAnyH_take (i := 5) (v := ?_) rfl (by kernel_rfl) (by kernel_rfl) (by kernel_rfl) (fun _ _ _ h => h) (Or.inl ⟨by kernel_rfl, ?y5g⟩) hHeld ?r5g
      case y5g => (intro wq hSw; have q1 := (CE.out wq hSw).2.2.1; go_simp; try rfl)
      simp only [Act.put, List.setIfInBounds_toArray, List.set_cons_zero, List.set_cons_succ]
      refine wpAnyH_ready (rs := [6]) (by kernel_rfl) (by simp) ?_
      refine AllReadyH.cons rfl (fun K hK => ?_) AllReadyH.nil
      go_simp
      go_wp2_with (go_at_call 84; refine (CF.out _ hHeld).mono ?_; rintro e w5 ⟨rfl, h5⟩; have H5 := hid_of h5)
      refine hK.out _ _ h5 (fun _ => ?_)
      clear hK K
      refine wpAnyH_ready (rs := [7]) (by kernel_rfl) (by simp) ?_
      refine AllReadyH.cons rfl (fun K hK => ?_) AllReadyH.nil
      go_simp
      refine hK.out _ _ h5 (fun _ => ?_)
      clear hK K
      refine wpAnyH_done (by kernel_rfl) ?_ _
      clear hHeld hS
      obtain ⟨p12, p0, _, _⟩ := CE.out _ H5.out
      clear CE h5
      have kp := PV.out _ H5.out.bel
      go_wp2_with fail
      go_region
      all_goals
        go_wp2
        go_roundg g'
        case measure => omega
        case rel => exact ⟨k + 1 + 1, by simp, by omega, OB.drew H5.out, HG.out⟩
    · have d1 : decide ((i : Int) < (c.fx.n : Int)) = false := decide_eq_false (by omega)
      have HX : Hid (P = true) := hid_of (by rw [PL2.out]; exact all_yes fun j hj => HP.out j (by have := NFX.out; omega))
      go_wp2
      go_ret
      exact ⟨ret_bool HX.out.symm, HB.out.bel⟩
end Go.Proofs.Ytepgifapepaheaa

namespace Go.Proofs.Ytepgifapepaheaa
set_option linter.unusedVariables false
set_option linter.unusedSimpArgs false
open Go.ChangeShapes Go.WideShapes Go.ChangeAt Go.RowKit
attribute [local go_sem] Oc.at0 Oc.at1 Oc.at2 Oc.at3 Oc.at4 Oc.at5 Oc.at6 Oc.at7 Oc.at8 Oc.at9 Oc.at10 Oc.at11 Oc.at12
attribute [local go_sem ↓] loadO_seal

set_option maxHeartbeats 4000000 in
set_option maxRecDepth 20000 in
theorem rencode_no (w : World) (c : Oc) (o : Ob) (h : ObR w c o) (hn : rightB o = false) : Calls Try.prog 51 #[.agg c.cells] w fun e w' => e = .returned (.tuple #[.slice none 0 0, .int .i64 70]) ∧ Below w.heap.size w w' := by
  have O0 : Hid (OB w (w.alloc (.cells c.cells 33)) c) := hid_of (Below.refl _ _)
  have q0 := loadO_run O0.out.bx
  have WI : Hid (∀ X, OB w X c → Calls Try.prog 74 #[.agg c.cells] X fun e Y => e = .returned (.bool false) ∧ OB w Y c) := fun X a => (rwithin_any X c o (h.below a.bel)).mono fun e Y hh => ⟨by rw [← hn, right_within]; exact hh.1, Below.trans a (hh.2.mono a.size)⟩
  clear h hn
  go_enter Try.func51, Try.ntmps51
  go_wp2_with (go_at_call 74; refine (WI.out _ O0.out).mono ?_; rintro e w1 ⟨rfl, h1⟩)
  go_ret2
  exact ⟨rfl, h1.bel⟩
theorem right_name {o : Ob} (h : rightB o = true) : (o.name.size : Int) ≤ 20 := by
  unfold rightB headB at h
  simp only [Bool.and_eq_true] at h
  exact fresh_size h.1.1.1.1
set_option maxHeartbeats 4000000 in
set_option maxRecDepth 20000 in
theorem rencode_yes (w : World) (c : Oc) (o : Ob) (h : ObR w c o) (hw : Words o) (hn : rightB o = true) : Calls Try.prog 51 #[.agg c.cells] w fun e w' => ∃ a n k, e = .returned (.tuple #[.slice a n k, .int .i64 0]) ∧ Ow w' w.heap.size (.slice a n k) (objL o) ∧ Below w.heap.size w w' := by
  obtain ⟨sm, ti⟩ := right_small hn hw
  have fi := sm.fine ti
  have hbl := body_le sm ti
  have hlen := objL_len o
  have hnm := right_name hn
  have O0 : Hid (OB w (w.alloc (.cells c.cells 33)) c) := hid_of (Below.refl _ _)
  have q0 := loadO_run O0.out.bx
  have WI : Hid (∀ X, OB w X c → Calls Try.prog 74 #[.agg c.cells] X fun e Y => e = .returned (.bool true) ∧ OB w Y c) := fun X a => (rwithin_any X c o (h.below a.bel)).mono fun e Y hh => ⟨by rw [← hn, right_within]; exact hh.1, Below.trans a (hh.2.mono a.size)⟩
  obtain ⟨n, hnl⟩ : ∃ n, n = (objL o).length := ⟨_, rfl⟩
  have BY : Hid (∀ X, OB w X c → Calls Try.prog 75 #[.agg c.cells] X fun e Y => ∃ a k, e = .returned (.slice a n k) ∧ Hid (Ow Y w.heap.size (.slice a n k) (objL o) ∧ Below w.heap.size w Y)) := fun X a => (rbytes_any X c o (h.below a.bel) fi hw (by rw [List.length_append, show markL.length = 4 from rfl]; omega) (by rw [h.nm]; omega)).mono fun e Y hh => by
    obtain ⟨v, h1, h2, h3⟩ := hh
    obtain ⟨g, k, hv, _, _⟩ := ow_at h2 (fun e => by rw [e] at hlen; simp at hlen)
    subst hv
    rw [← hnl] at h1 h2
    exact ⟨_, k, h1, ow_low h2 a.bel.size, a.bel.trans (h3.mono a.bel.size)⟩
  have LO : Hid (∀ X, OB w X c → (loadO ⟨w.heap.size, 0, none⟩).run Try.prog X = .ok (.agg c.cells) X) := fun X a => loadO_run a.bx
  have d1 : decide ((1048576 : Int) < (n : Int)) = false := decide_eq_false (by omega)
  have d2 : ¬ 1048576 < n := by omega
  clear h hw hn sm ti fi hbl hlen hnm hnl
  go_enter Try.func51, Try.ntmps51
  go_wp2_with (first
    | (go_at_call 74; refine (WI.out _ O0.out).mono ?_; rintro e w1 ⟨rfl, h1⟩; have q1 := LO.out _ h1; have H1 := hid_of h1; clear h1)
    | (go_at_call 75; refine (BY.out _ H1.out).mono ?_; rintro e w2 ⟨a, k, rfl, H2⟩))
  go_ret2
  exact ⟨_, _, _, rfl, H2.out.1, H2.out.2⟩
theorem rright_any (w : World) (c : Oc) (o : Ob) (h : ObR w c o) (hw : Words o) : Calls Try.prog 20 #[.agg c.cells] w fun e w' => e = .returned (.bool (rightB o)) ∧ Below w.heap.size w w' := by
  have q0 : (loadO ⟨w.heap.size, 0, none⟩).run Try.prog (w.alloc (.cells c.cells 33)) = .ok (.agg c.cells) (w.alloc (.cells c.cells 33)) := loadO_run (blk_new _ _)
  have hb : Below w.heap.size w (w.alloc (.cells c.cells 33)) := by go_grown
  cases hn : rightB o
  · have EN := hid_of ((rencode_no (w.alloc (.cells c.cells 33)) c o (h.below hb) hn).mono fun e Y hh => (⟨hh.1, hb.trans (hh.2.mono hb.size)⟩ : _ ∧ Below w.heap.size w Y))
    clear h hn hb
    go_enter Try.func20, Try.ntmps20
    go_wp2_with (go_at_call 51; refine EN.out.mono ?_; rintro e w1 ⟨rfl, h1⟩)
    go_ret
    exact ⟨rfl, h1⟩
  · have EN := hid_of ((rencode_yes (w.alloc (.cells c.cells 33)) c o (h.below hb) hw hn).mono fun e Y hh => by
      obtain ⟨a, n, k, h1, _, h3⟩ := hh
      exact (⟨a, n, k, h1, hb.trans (h3.mono hb.size)⟩ : ∃ a n k, e = .returned (.tuple #[.slice a n k, .int .i64 0]) ∧ Below w.heap.size w Y))
    clear h hn hb
    go_enter Try.func20, Try.ntmps20
    go_wp2_with (go_at_call 51; refine EN.out.mono ?_; rintro e w1 ⟨a, n, k, rfl, h1⟩)
    go_ret
    exact ⟨rfl, h1⟩
end Go.Proofs.Ytepgifapepaheaa

namespace Go.Proofs.Ytepgifapepaheaa
set_option linter.unusedVariables false
set_option linter.unusedSimpArgs false
open Go.ChangeShapes Go.WideShapes Go.ChangeAt Go.RowKit
attribute [local go_sem ↓] loadO_seal storeO_seal

set_option maxHeartbeats 4000000 in
set_option maxRecDepth 20000 in
theorem rdecode_long (w : World) (a : Option Addr) (len cap : Nat) (f : Nat → Int) (h : Src w a len cap f) (hl : 1048576 < len) : Calls Try.prog 6 #[.slice a len cap] w (PostC w f len) := by
  have hR : decR f len = (0, 71) := by unfold decR; rw [if_neg (by omega)]
  have hfit := h.fit
  obtain ⟨Z, hst, hz, ht⟩ := storeO_run (zero_at w) Oc.zero
  have HB : Hid (Below w.heap.size w Z) := Below.of_tq (by go_grown) ht fun k hk => by omega
  have d1 : decide ((1048576 : Int) < (len : Int)) = true := decide_eq_true (by omega)
  have d2 : 1048576 < len := hl
  clear h
  unfold zeroO at hst
  simp only [Oc.cells, Oc.zero] at hst
  go_enter Try.func6, Try.ntmps6
  go_wp2
  refine ret_cell_tmp2 (p := 2) (q := 3) (r := 4) rfl rfl (loadO_run hz) rfl ?_
  exact postC_bad hR (by omega) HB.out
set_option maxHeartbeats 4000000 in
set_option maxRecDepth 20000 in
theorem rdecode_short (w : World) (a : Option Addr) (len cap : Nat) (f : Nat → Int) (h : Src w a len cap f) (hl : len < 8) : Calls Try.prog 6 #[.slice a len cap] w (PostC w f len) := by
  have hR : decR f len = (0, 71) := by unfold decR; rw [if_neg (by omega)]
  obtain ⟨Z, hst, hz, ht⟩ := storeO_run (zero_at w) Oc.zero
  have HB : Hid (Below w.heap.size w Z) := Below.of_tq (by go_grown) ht fun k hk => by omega
  have d1 : decide ((1048576 : Int) < (len : Int)) = false := decide_eq_false (by omega)
  have d2 : ¬ 1048576 < len := by omega
  have d3 : decide ((len : Int) < 8) = true := decide_eq_true (by omega)
  have d4 : len < 8 := hl
  clear h
  unfold zeroO at hst
  simp only [Oc.cells, Oc.zero] at hst
  go_enter Try.func6, Try.ntmps6
  go_wp2
  refine ret_cell_tmp2 (p := 2) (q := 3) (r := 4) rfl rfl (loadO_run hz) rfl ?_
  exact postC_bad hR (by omega) HB.out
set_option maxHeartbeats 4000000 in
set_option maxRecDepth 20000 in
theorem rdecode_mark (w : World) (b off len cap : Nat) (f : Nat → Int) (h : Src w (some ⟨b, off, none⟩) len cap f) (hc : len ≤ cap) (hl : 8 ≤ len) (hl2 : len ≤ 1048576) (hm : strOfNums (bl f 4) ≠ markS) : Calls Try.prog 6 #[.slice (some ⟨b, off, none⟩) len cap] w (PostC w f len) := by
  have hR : decR f len = (0, 71) := by unfold decR; rw [if_neg (fun e => hm e.2.2)]
  obtain ⟨Z, hst, hz, ht⟩ := storeO_run (zero_at w) Oc.zero
  have HB : Hid (Below w.heap.size w Z) := Below.of_tq (by go_grown) ht fun k hk => by omega
  have d1 : decide ((1048576 : Int) < (len : Int)) = false := decide_eq_false (by omega)
  have d2 : ¬ 1048576 < len := by omega
  have d3 : decide ((len : Int) < 8) = false := decide_eq_false (by omega)
  have d4 : ¬ len < 8 := by omega
  have d5 : (4 : Int) ≤ (cap : Int) := by omega
  have d6 : 4 ≤ cap := by omega
  have hv := conv4 h (X := w.alloc zeroO) (by go_grown) (by omega)
  unfold markS at hm
  generalize strOfNums (bl f 4) = S4 at hv hm
  have hm2 : (S4.toList == [67, 82, 79, 49]) = false := by rw [Lib.toList_data]; simp only [beq_eq_false_iff_ne, ne_eq]; exact fun e => hm (by cases S4 with | mk d => cases d with | mk l => exact congrArg (fun t => ByteArray.mk ⟨t⟩) e)
  clear h
  unfold zeroO at hst hv
  simp only [Oc.cells, Oc.zero] at hst
  go_enter Try.func6, Try.ntmps6
  go_wp2
  refine ret_cell_tmp2 (p := 2) (q := 3) (r := 4) rfl rfl (loadO_run hz) rfl ?_
  exact postC_bad hR (by omega) HB.out
set_option maxHeartbeats 4000000 in
set_option maxRecDepth 20000 in
theorem rdecode_sum (w : World) (b off e cap : Nat) (f : Nat → Int) (h : Src w (some ⟨b, off, none⟩) (e + 4) cap f) (hc : e + 4 ≤ cap) (hl : 4 ≤ e) (hl2 : e ≤ 1048572) (hm : strOfNums (bl f 4) = markS) (hs : ¬ gotW (e + 4) f (e : Int) = fnv f e) : Calls Try.prog 6 #[.slice (some ⟨b, off, none⟩) ((e + 4 : Nat)) cap] w (PostC w f (e + 4)) := by
  have hR : decR f (e + 4) = ((e : Int), 72) := by unfold decR; rw [if_pos ⟨by omega, by omega, hm⟩, Nat.add_sub_cancel, if_neg hs]
  have d1 : decide ((1048576 : Int) < ((e + 4 : Nat) : Int)) = false := decide_eq_false (by omega)
  have d2 : ¬ 1048576 < e + 4 := by omega
  have d3 : decide (((e + 4 : Nat) : Int) < 8) = false := decide_eq_false (by omega)
  have d4 : ¬ e + 4 < 8 := by omega
  have d5 : (4 : Int) ≤ (cap : Int) := by omega
  have d6 : 4 ≤ cap := by omega
  have d7 : (e : Int) ≤ (cap : Int) := by omega
  have d8 : e ≤ cap := by omega
  have d9 : IntKind.i64.wrap (((e + 4 : Nat) : Int) - 4) = (e : Int) := by rw [IntWalk.i64_left, IntWalk.wrap64_in] <;> omega
  have e1 : decide ((1048576 : Int) < (e : Int) + 4) = false := decide_eq_false (by omega)
  have e3 : decide ((e : Int) + 4 < 8) = false := decide_eq_false (by omega)
  have e9 : IntKind.i64.wrap (e : Int) = (e : Int) := by rw [IntWalk.i64_left, IntWalk.wrap64_in] <;> omega
  have e8 : (0 : Int) ≤ (e : Int) := by omega
  have hv := conv4 h (X := w.alloc zeroO) (by go_grown) (by omega)
  rw [hm] at hv
  have T0 : Hid (Below w.heap.size w (w.alloc zeroO) ∧ OAt (w.alloc zeroO) w.heap.size Oc.zero) := ⟨by go_grown, zero_at w⟩
  have GT : Hid (∀ X, Below w.heap.size w X ∧ OAt X w.heap.size Oc.zero → Calls Try.prog 14 #[.slice (some ⟨b, off, none⟩) ((e + 4 : Nat)) cap, .int .i64 (e : Int)] X fun en Y => en = .returned (.tuple #[.int .u32 (gotW (e + 4) f (e : Int)), .bool (fits (e + 4) (e : Int))]) ∧ ∃ Z, (storeO ⟨w.heap.size, 0, none⟩ (.agg Oc.zero.cells)).run Try.prog Y = .ok () Z ∧ Hid (OAt Z w.heap.size Oc.zero ∧ Below w.heap.size w Z) ∧ Hid (Below w.heap.size w Y)) := fun X hX => (rget_any (some ⟨b, off, none⟩) (e + 4) cap f e X (h.below hX.1).rd (by omega)).mono fun en Y hh => by
    have hb2 : Below w.heap.size w Y := by rw [hh.2]; exact hX.1
    obtain ⟨Z, z1, z2, z3⟩ := storeO_run (o := Oc.zero) (show OAt Y _ _ by rw [hh.2]; exact hX.2) Oc.zero
    exact ⟨hh.1, Z, z1, ⟨z2, Below.of_tq hb2 z3 fun k hk => by omega⟩, hb2⟩
  have SM : Hid (∀ X, Below w.heap.size w X → Calls Try.prog 15 #[.slice (some ⟨b, off, none⟩) e cap] X fun en Y => en = .returned (.int .u32 (fnv f e)) ∧ Y = X) := fun X hX => rsum_any _ e cap f X ((h.below hX).less e (by omega))
  generalize gotW (e + 4) f (e : Int) = gw at *
  generalize fnv f e = fv at *
  generalize fits (e + 4) (e : Int) = ft at *
  have n1 : (gw != fv) = true := by simp; exact hs
  clear h hs hm
  unfold zeroO at T0 hv
  simp only [Oc.cells, Oc.zero] at GT
  unfold markS at hv
  go_enter Try.func6, Try.ntmps6
  go_wp2_with (first
    | (go_at_call 14; refine (GT.out _ T0.out).mono ?_; rintro en w1 ⟨rfl, Z, hst, HZ, HB⟩)
    | (go_at_call 15; refine (SM.out _ HB.out).mono ?_; rintro en w2 ⟨rfl, hw⟩; rw [hw]; clear hw))
  refine ret_cell_tmp2 (p := 2) (q := 3) (r := 4) rfl rfl (loadO_run HZ.out.1) rfl ?_
  exact postC_bad hR (by omega) HZ.out.2
end Go.Proofs.Ytepgifapepaheaa

namespace Go.Proofs.Ytepgifapepaheaa
set_option linter.unusedVariables false

theorem wordS_bd {f : Nat → Int} {len : Nat} (hf : Oct f len) (s : St) : U32 (wordS f len s).1 := by
  unfold wordS
  split
  · rename_i hc
    simp only [Bool.and_eq_true] at hc
    have hfit := hc.2
    have hq : s.p + 4 ≤ len := by have := hc.2; unfold fits at this; have := of_decide_eq_true this; omega
    show U32 (gotW len f s.p)
    unfold gotW
    rw [if_pos hfit]
    unfold wordAt U32
    have h0 := hf s.p (by omega)
    have h1 := hf (s.p + 1) (by omega)
    have h2 := hf (s.p + 2) (by omega)
    have h3 := hf (s.p + 3) (by omega)
    have e : tgv 256 (fun i => f ((s.p : Int).toNat + i)) 4 = f s.p + f (s.p + 1) * 256 + f (s.p + 2) * 65536 + f (s.p + 3) * 16777216 := by
      simp [tgv]
    rw [e]
    omega
  · exact ⟨by show (0 : Int) ≤ 0; omega, by show (0 : Int) ≤ 4294967295; omega⟩
theorem words_read {f : Nat → Int} {len : Nat} (hf : Oct f len) (hl : len ≤ 1048576) (s : St) (hs : (objS f len s).2.st = false) : Words (objS f len s).1 := by
  unfold objS at hs ⊢
  simp only at hs ⊢
  generalize e0 : textS f len 20 s = x0 at *
  generalize e1 : wordS f len x0.2 = x1 at *
  generalize e2 : rowS f len 16 (impS f len) x1.2 = x2 at *
  generalize e3 : rowS f len 65536 (wordS f len) x2.2 = x3 at *
  generalize e4 : rowS f len 100 (prcS f len) x3.2 = x4 at *
  generalize e5 : numS f len 4294967295 x4.2 = x5 at *
  generalize e6 : rowS f len 200 (numS f len 4294967295) x5.2 = x6 at *
  generalize e7 : rowS f len 200 (numS f len 4294967295) x6.2 = x7 at *
  generalize e8 : rowS f len 200 (textS f len 200) x7.2 = x8 at *
  generalize e9 : rowS f len 200 (dscS f len) x8.2 = x9 at *
  generalize e10 : rowS f len 65536 (fixS f len) x9.2 = x10 at *
  have s9 : x9.2.st = false := by rw [← e10] at hs; exact (row_form hf (fix_form hf) 65536 (by omega) _ hs).1
  have s8 : x8.2.st = false := by rw [← e9] at s9; exact (row_form hf (dsc_form hf) 200 (by omega) _ s9).1
  have s7 : x7.2.st = false := by rw [← e8] at s8; exact (row_form hf (text_form hf hl 200) 200 (by omega) _ s8).1
  have s6 : x6.2.st = false := by rw [← e7] at s7; exact (row_form hf (num_form hf 4294967295) 200 (by omega) _ s7).1
  have s5 : x5.2.st = false := by rw [← e6] at s6; exact (row_form hf (num_form hf 4294967295) 200 (by omega) _ s6).1
  have s4 : x4.2.st = false := by rw [← e5] at s5; exact (num_form hf 4294967295 _ s5).1
  have s3 : x3.2.st = false := by rw [← e4] at s4; exact (row_form hf (prc_form hf hl) 100 (by omega) _ s4).1
  have s2 : x2.2.st = false := by rw [← e3] at s3; exact (row_form hf (word_form hf) 65536 (by omega) _ s3).1
  have himp : Has (impS f len) (fun x => U32 x.2) := fun s h => wordS_bd hf _
  have t2 := row_has himp (f := f) (len := len) 16 (by omega) x1.2 (by rw [e2]; exact s2)
  have t3 := row_has (P := U32) (fun s h => wordS_bd hf s : Has (wordS f len) U32) (f := f) (len := len) 65536 (by omega) x2.2 (by rw [e3]; exact s3)
  rw [e2] at t2; rw [e3] at t3
  exact ⟨by rw [← e1]; exact wordS_bd hf _, t2.2, t3.2⟩
end Go.Proofs.Ytepgifapepaheaa

namespace Go.Proofs.Ytepgifapepaheaa
set_option linter.unusedVariables false
set_option linter.unusedSimpArgs false
open Go.ChangeShapes Go.WideShapes Go.ChangeAt Go.RowKit

theorem ObAt.base {X : World} {B B' : Nat} {c : Oc} {o : Ob} (h : ObAt X B c o) (hb : B' ≤ B) : ObAt X B' c o := by
  obtain ⟨l, h1, h2, h3⟩ := h.ds
  exact ⟨h.nm, h.key, h.ini, own_base h.im hb, own_base h.co hb, own_base h.pr hb, own_base h.na hb, own_base h.ex hb, own_base h.va hb, own_base h.sh hb, own_base h.st hb, ⟨l, h1, own_base h2 hb, fun p hp => own_base (h3 p hp) hb⟩, own_base h.fx hb⟩
theorem info_dsc3 : (Try.prog.info? 54).map (fun i => (i.zero, i.size, i.bytes)) = some (some (.agg #[.int .i64 0, .int .i64 0, .slice none 0 0]), 3, 40) := by kernel_rfl
theorem info_fix3 : (Try.prog.info? 56).map (fun i => (i.zero, i.size, i.bytes)) = some (some (.agg #[.int .i64 0, .int .i64 0, .int .i64 0, .int .i64 0]), 4, 32) := by kernel_rfl
/-- The reading of what stands ahead of descriptors, and that it is kept in a cell. -/
theorem rstage (w X : World) (b off e cap : Nat) (f : Nat → Int) (hX : Below w.heap.size w X) (ht : OAt X w.heap.size Oc.zero) (hs : Src w (some ⟨b, off, none⟩) (e + 4) cap f) (hc : e + 4 ≤ cap) (he : 4 ≤ e) (he2 : e ≤ 1048572) :
    Calls Try.prog 16 #[.pointer (some ⟨X.heap.size, 0, none⟩)] (X.alloc (.cells #[.slice (some ⟨b, off, none⟩) e cap, .int .i64 4, .int .i64 (-1)] 51)) fun en Y => ∃ (c : Oc) (o : Ob) (Z : World), en = .returned (.agg (Oc.cells { c with ds := ⟨none, 0, 0⟩, fx := ⟨none, 0, 0⟩ })) ∧ (storeO ⟨Y.heap.size, 0, none⟩ (.agg (Oc.cells { c with ds := ⟨none, 0, 0⟩, fx := ⟨none, 0, 0⟩ }))).run Try.prog (Y.alloc zeroO) = .ok () Z ∧ Hid (GS w Z X.heap.size Y.heap.size (X.heap.size + 1) (some ⟨b, off, none⟩) e cap f { c with ds := ⟨none, 0, 0⟩, fx := ⟨none, 0, 0⟩ } { o with descs := [], fixes := [] } (firstS f e ⟨4, false⟩).2 ∧ ((firstS f e ⟨4, false⟩).2.st = false → { o with descs := [], fixes := [] } = (firstS f e ⟨4, false⟩).1)) := by
  have hbw : b < w.heap.size := by
    rcases hs.rd.2 with h0 | ⟨b', off', e1, h2⟩
    · omega
    · injection e1 with e1; injection e1 with e1 e2; subst e1 e2
      exact World.block_lt_of_cell? w ⟨b, off + 0, none⟩ (h2 0 (by omega)).1
  have hsz := hX.size
  have htl := ht.lt
  have hb1 : Below X.heap.size X (X.alloc (.cells #[.slice (some ⟨b, off, none⟩) e cap, .int .i64 4, .int .i64 (-1)] 51)) := (Below.refl _ _).alloc (Nat.le_refl _) _
  have hR : DRd (X.alloc (.cells #[.slice (some ⟨b, off, none⟩) e cap, .int .i64 4, .int .i64 (-1)] 51)) X.heap.size (some ⟨b, off, none⟩) e cap f ⟨4, false⟩ := by
    refine ⟨blk_new _ _, ⟨?_, (fun h => by cases h), by omega⟩, by omega, he, by omega, fun ad hd => ?_⟩
    · exact ((hs.below (hX.trans (hb1.mono (by omega)))).less e (by omega))
    · injection hd with hd; subst hd; exact ⟨by simp; omega, by simp; omega⟩
  refine (rfirst_of _ X.heap.size e cap _ f ⟨4, false⟩ hR (by simp)).mono fun en Y hh => ?_
  obtain ⟨c, o, h1, h2, h3, h4, h5, q1, q2, q3, q4⟩ := hh
  have hc0 : c = { c with ds := ⟨none, 0, 0⟩, fx := ⟨none, 0, 0⟩ } := by cases c; simp only at q1 q2; rw [q1, q2]
  have ho0 : o = { o with descs := [], fixes := [] } := by cases o; simp only at q3 q4; rw [q3, q4]
  have hYs := h5.size
  simp at hYs
  obtain ⟨Z, z1, z2, z3⟩ := storeO_run (zero_at Y) c
  have z1 : (storeO ⟨Y.heap.size, 0, none⟩ (.agg (Oc.cells { c with ds := ⟨none, 0, 0⟩, fx := ⟨none, 0, 0⟩ }))).run Try.prog (Y.alloc zeroO) = .ok () Z := by rw [← hc0]; exact z1
  refine ⟨c, o, Z, by rw [← hc0]; exact h1, z1, ?_⟩
  rw [← hc0, ← ho0]
  refine ⟨⟨?_, z2, ?_, ?_, ?_, by omega, by omega, by omega, by omega⟩, h3⟩
  · have hr2 : DRd (Y.alloc zeroO) X.heap.size (some ⟨b, off, none⟩) e cap f (firstS f e ⟨4, false⟩).2 := h4.below ((Below.refl _ _).alloc (Nat.le_refl _) _)
    exact hr2.tq z3 (by omega) (fun ad hd => by injection hd with hd; subst hd; show ¬ b = Y.heap.size; omega)
  · have : OAt (Y.alloc zeroO) w.heap.size Oc.zero := (Below.heap_alloc _ _ _ (by omega)).trans ((h5.block _ (by simp; omega) (fun e => by injection e with e; omega)).trans ((Below.heap_alloc _ _ _ (by omega)).trans ht))
    exact this.tq z3 (by omega)
  · have ho2 : ObAt Y (X.heap.size + 3) c o := by
      have := h2
      rw [show (X.alloc (.cells #[.slice (some ⟨b, off, none⟩) e cap, .int .i64 4, .int .i64 (-1)] 51)).heap.size + 2 = X.heap.size + 3 by simp] at this
      exact this
    have t : Tq Y Z (fun k => k = Y.heap.size) := (Tq.below (P := fun k => k = Y.heap.size) ((Below.refl _ _).alloc (Nat.le_refl _) _)).trans z3
    exact (ho2.tq2 t (fun k hk => by omega)).base (by omega)
  · have : Below w.heap.size w (Y.alloc zeroO) := by
      have h6 : Below w.heap.size w Y := ⟨h5.os.trans (hX.alloc hsz _).os, h5.tape.trans (hX.alloc hsz _).tape, h5.output.trans (hX.alloc hsz _).output, by omega, fun k hk => (h5.block k (by simp; omega) (fun e => by injection e with e; omega)).trans ((hX.alloc hsz _).block k hk)⟩
      exact h6.alloc (by omega) _
    exact Below.of_tq this z3 fun k hk => by omega
theorem firstS_obj (f : Nat → Int) (e : Nat) (s : St) : objS f e s = (let y := firstS f e s; let x9 := rowS f e 200 (dscS f e) y.2; let x10 := rowS f e 65536 (fixS f e) x9.2; ({ y.1 with descs := x9.1, fixes := x10.1 }, x10.2)) := by simp only [objS, firstS]
theorem obj_parts (f : Nat → Int) (e : Nat) : ∃ (x8 : Ob × St) (x9 : List (Int × Int × List Int) × St) (x10 : List (Int × Int × Int × Int) × St), firstS f e ⟨4, false⟩ = x8 ∧ rowS f e 200 (dscS f e) x8.2 = x9 ∧ rowS f e 65536 (fixS f e) x9.2 = x10 ∧ objS f e ⟨4, false⟩ = ({ x8.1 with descs := x9.1, fixes := x10.1 }, x10.2) := ⟨_, _, _, rfl, rfl, rfl, firstS_obj f e ⟨4, false⟩⟩
attribute [local go_sem ↓] loadO_seal storeO_seal appN_seal
set_option maxHeartbeats 40000000 in
set_option maxRecDepth 20000 in
theorem rdec_main (w : World) (b off e cap : Nat) (f : Nat → Int) (h : Src w (some ⟨b, off, none⟩) (e + 4) cap f) (hc : e + 4 ≤ cap) (hl : 4 ≤ e) (hl2 : e ≤ 1048572) (hm : strOfNums (bl f 4) = markS) (hs : gotW (e + 4) f (e : Int) = fnv f e) : Calls Try.prog 6 #[.slice (some ⟨b, off, none⟩) ((e + 4 : Nat)) cap] w (PostC w f (e + 4)) := by
  have hR : decR f (e + 4) = if (objS f e ⟨4, false⟩).2.st = true ∨ (objS f e ⟨4, false⟩).2.p < e then (((objS f e ⟨4, false⟩).2.p : Int), (71 : Int)) else if rightB (objS f e ⟨4, false⟩).1 = true then (0, 0) else (0, 70) := by unfold decR; rw [if_pos ⟨by omega, by omega, hm⟩, Nat.add_sub_cancel, if_pos hs]
  have d1 : decide ((1048576 : Int) < ((e + 4 : Nat) : Int)) = false := decide_eq_false (by omega)
  have d2 : ¬ 1048576 < e + 4 := by omega
  have d3 : decide (((e + 4 : Nat) : Int) < 8) = false := decide_eq_false (by omega)
  have d4 : ¬ e + 4 < 8 := by omega
  have d5 : (4 : Int) ≤ (cap : Int) := by omega
  have d6 : 4 ≤ cap := by omega
  have d7 : (e : Int) ≤ (cap : Int) := by omega
  have d8 : e ≤ cap := by omega
  have d9 : IntKind.i64.wrap (((e + 4 : Nat) : Int) - 4) = (e : Int) := by rw [IntWalk.i64_left, IntWalk.wrap64_in] <;> omega
  have e1 : decide ((1048576 : Int) < (e : Int) + 4) = false := decide_eq_false (by omega)
  have e3 : decide ((e : Int) + 4 < 8) = false := decide_eq_false (by omega)
  have e9 : IntKind.i64.wrap (e : Int) = (e : Int) := by rw [IntWalk.i64_left, IntWalk.wrap64_in] <;> omega
  have e8 : (0 : Int) ≤ (e : Int) := by omega
  have hv := conv4 h (X := w.alloc zeroO) (by go_grown) (by omega)
  rw [hm] at hv
  have T0 : Hid (Below w.heap.size w (w.alloc zeroO) ∧ OAt (w.alloc zeroO) w.heap.size Oc.zero) := ⟨by go_grown, zero_at w⟩
  have GT : Hid (∀ X, Below w.heap.size w X ∧ OAt X w.heap.size Oc.zero → Calls Try.prog 14 #[.slice (some ⟨b, off, none⟩) ((e + 4 : Nat)) cap, .int .i64 (e : Int)] X fun en Y => en = .returned (.tuple #[.int .u32 (fnv f e), .bool (fits (e + 4) (e : Int))]) ∧ Below w.heap.size w Y ∧ OAt Y w.heap.size Oc.zero) := fun X hX => (rget_any (some ⟨b, off, none⟩) (e + 4) cap f e X (h.below hX.1).rd (by omega)).mono fun en Y hh => ⟨by rw [← hs]; exact hh.1, by rw [hh.2]; exact hX⟩
  have SM : Hid (∀ X, Below w.heap.size w X ∧ OAt X w.heap.size Oc.zero → Calls Try.prog 15 #[.slice (some ⟨b, off, none⟩) e cap] X fun en Y => en = .returned (.int .u32 (fnv f e)) ∧ Y = X) := fun X hX => rsum_any _ e cap f X ((h.below hX.1).less e (by omega))
  have ST : Hid (∀ X, Below w.heap.size w X ∧ OAt X w.heap.size Oc.zero → Calls Try.prog 16 #[.pointer (some ⟨X.heap.size, 0, none⟩)] _ _) := fun X hX => rstage w X b off e cap f hX.1 hX.2 h hc hl hl2
  have hbw : b < w.heap.size := by
    rcases h.rd.2 with h0 | ⟨b', off', q1, h2⟩
    · omega
    · injection q1 with q1; injection q1 with q1 q2; subst q1 q2
      exact World.block_lt_of_cell? w ⟨b, off + 0, none⟩ (h2 0 (by omega)).1
  have HA : Hid (∀ x, (some ⟨b, off, none⟩ : Option Addr) = some x → x.block < w.heap.size) := hid_of fun x hx => by injection hx with hx; subst hx; exact hbw
  have hoct : Oct f e := fun i hi => by
    rcases h.rd.2 with h0 | ⟨b', off', _, h2⟩
    · omega
    · exact (h2 i (by omega)).2
  have OCT := hid_of hoct
  clear hoct hbw
  obtain ⟨x8, x9, x10, q8, q9, q10, qo⟩ := obj_parts f e
  rw [qo] at hR
  rw [q8] at ST
  simp only at hR
  have HOB := hid_of qo
  have E8 := hid_of q8
  have E9 := hid_of q9
  have E10 := hid_of q10
  have HR := hid_of hR
  clear q8 q9 q10 qo hR
  generalize fnv f e = fv at *
  generalize fits (e + 4) (e : Int) = ft at *
  have n1 : (fv != fv) = false := by simp
  clear h hs hm
  unfold zeroO at T0 hv ST
  unfold markS at hv
  go_enter Try.func6, Try.ntmps6
  go_upto_block 0 with (first
    | (go_at_call 14; refine (GT.out _ T0.out).mono ?_; rintro en w1 ⟨rfl, hb1⟩; have H1 := hid_of hb1; clear hb1)
    | (go_at_call 15; refine (SM.out _ H1.out).mono ?_; rintro en w2 ⟨rfl, hw⟩; rw [hw]; clear hw)
    | (go_at_call 16; refine (ST.out _ H1.out).mono ?_; rintro en w3 ⟨c, o, Z, rfl, hst, HD⟩; have G0 := hid_of HD.out.1; have AO := hid_of HD.out.2)
    | (go_at_call 17; refine (rnum_nat _ _ e cap _ f x8.2 G0.out.rd 200 (by omega) (by omega)).mono ?_; rintro en w4 ⟨nn, rfl, HN⟩; have G1 := hid_of (G0.out.read HA.out HN.out.1 HN.out.2.1)))
  clear G0 HD hst GT SM ST T0 H1 hv
  generalize w1.heap.size = be at *
  generalize w3.heap.size = ob at *
  have PL := hid_of (G1.out.pl HA.out)
  have LB := hid_of HN.out.2.2
  have nb : nn ≤ 200 := by have := HN.out.2.2.2; omega
  clear HN
  go_cut [11] (fun s_ X => ∃ (acc : List ((Int × Int × List Int))) (sl : Sl), Hid (GS w X be ob (be + 1) (some ⟨b, off, none⟩) e cap f ({ c with ds := sl, fx := ⟨none, 0, 0⟩ } : Oc) ({ o with descs := acc, fixes := [] } : Ob) x9.2 ∧ (x9.2.st = false → acc = x9.1)))
  case first =>
    obtain ⟨X0, hX0⟩ : ∃ X0, X0 = w4 := ⟨_, rfl⟩
    rw [← hX0] at G1 PL ⊢
    clear hX0
    have RR : Hid (x9 = loopS (dscS f e) nn [] (numS f e 200 x8.2).2) := hid_of (by rw [← E9.out, LB.out.1]; rfl)
    have LS : Hid (Lp (dscS f e) x9 nn [] (numS f e 200 x8.2).2) := hid_of (by rw [RR.out]; exact Lp.start _ _ _ fun e => by rw [LB.out.1, num_zero e]; rfl)
    clear RR LB
    generalize (numS f e 200 x8.2).2 = sa at *
    have L0 := hid_of (G1.out.li)
    go_wp2_with fail
    go_loopg [11] nn (fun gf s_ wx => ∃ (i : Nat) (acc : List ((Int × Int × List Int) × Sl)) (s : St) (sl : Sl), s_ = .int .i64 (i : Int) ∧ i + gf = nn ∧ Hid (LI X0 wx be e cap (some ⟨b, off, none⟩) f ob w.heap.size ({ c with ds := sl, fx := ⟨none, 0, 0⟩ } : Oc) s ∧ wx.ownsRow X0.heap.size 54 3 (.slice sl.a sl.n sl.c) acc.length (flat dEnc acc) ∧ DsAt wx X0.heap.size acc ∧ Lp (dscS f e) x9 gf (acc.map (·.1)) s ∧ acc.length = i))
    case atStart => exact ⟨0, [], sa, ⟨none, 0, 0⟩, rfl, by omega, L0.out, own_nil _ _ _ _, (fun p hp => by cases hp), LS.out, rfl⟩
    case round =>
      clear LS L0
      obtain ⟨i, acc, s, sl, rfl, hi, HL⟩ := hrel
      have cb := HL.out.1.rd.c2
      have FIN : Hid (gk = 0 ∨ s.st = true → ∃ (acc : List ((Int × Int × List Int))) (sl : Sl), Hid (GS w wr be ob (be + 1) (some ⟨b, off, none⟩) e cap f ({ c with ds := sl, fx := ⟨none, 0, 0⟩ } : Oc) ({ o with descs := acc, fixes := [] } : Ob) x9.2 ∧ (x9.2.st = false → acc = x9.1))) := fun hm => by
        obtain ⟨l1, l2, ld, l3, l4⟩ := HL.out
        obtain ⟨f1, f2⟩ := l3.fin hm
        refine ⟨acc.map (·.1), sl, ?_, fun e => (f2 (by rw [← f1]; exact e)).symm⟩
        rw [f1]
        have hle : be + 1 ≤ X0.heap.size := PL.out.lb
        exact G1.out.join l1 (fun q => q.ds_ sl acc (own_base l2 hle) (fun p hp => own_base (ld p hp) hle))
      by_cases hlt : i < nn
      rotate_left
      · have d1 : decide ((i : Int) < (nn : Int)) = false := decide_eq_false (by omega)
        have FF := hid_of (FIN.out (.inl (by omega)))
        clear FIN HL
        go_wp2
        go_meet
        exact FF.out
      have d1 : decide ((i : Int) < (nn : Int)) = true := decide_eq_true (by omega)
      obtain ⟨p, st⟩ := s
      cases st
      rotate_left
      · have d2 : decide ((p : Int) < 0) = false := decide_eq_false (by omega)
        rw [bad_stuck] at cb
        have FF := hid_of (FIN.out (.inr rfl))
        clear FIN HL
        go_wp2
        go_meet
        exact FF.out
      rw [bad_live] at cb
      obtain ⟨g', rfl⟩ : ∃ g', gk = g' + 1 := ⟨gk - 1, by omega⟩
      clear FIN
      have ML := hid_of (QD.new HL.out.1 HL.out.2.1 HL.out.2.2.1 #[.int .i64 0, .int .i64 0, .slice none 0 0])
      have NX := hid_of HL.out.2.2.2
      have hI : dscS f e ⟨p, false⟩ = (((numS f e 4294967295 ⟨p, false⟩).1, (numS f e 4294967295 (numS f e 4294967295 ⟨p, false⟩).2).1, (rowS f e 4 (numS f e 4294967295) (numS f e 4294967295 (numS f e 4294967295 ⟨p, false⟩).2).2).1), (rowS f e 4 (numS f e 4294967295) (numS f e 4294967295 (numS f e 4294967295 ⟨p, false⟩).2).2).2) := rfl
      have NXE := hid_of hI
      clear hI HL
      have TR1 : Hid (∀ X, DRd X be (some ⟨b, off, none⟩) e cap f ⟨p, false⟩ → Calls Try.prog 17 #[.pointer (some ⟨be, 0, none⟩), .int .i64 4294967295] X (PostV X be (some ⟨b, off, none⟩) e cap f (.int .i64 (numS f e 4294967295 ⟨p, false⟩).1) (numS f e 4294967295 ⟨p, false⟩).2)) := fun X hX => rnumber_of X be e cap _ f _ hX 4294967295 (by omega) (by omega)
      generalize numS f e 4294967295 ⟨p, false⟩ = t1 at *
      have TR2 : Hid (∀ X, DRd X be (some ⟨b, off, none⟩) e cap f t1.2 → Calls Try.prog 17 #[.pointer (some ⟨be, 0, none⟩), .int .i64 4294967295] X (PostV X be (some ⟨b, off, none⟩) e cap f (.int .i64 (numS f e 4294967295 t1.2).1) (numS f e 4294967295 t1.2).2)) := fun X hX => rnumber_of X be e cap _ f _ hX 4294967295 (by omega) (by omega)
      generalize numS f e 4294967295 t1.2 = t2 at *
      obtain ⟨x3, h3⟩ : ∃ x3, rowS f e 4 (numS f e 4294967295) t2.2 = x3 := ⟨_, rfl⟩
      have E3 := hid_of h3
      rw [h3] at NXE
      clear h3
      go_upto_block 2 with (first
        | (have hz := M2; clear hz; go_at_call 17; refine (rnum_nat _ be e cap _ f t2.2 M2.out.mi.li.rd 4 (by omega) (by omega)).mono ?_; rintro en v3 ⟨kk, rfl, HK⟩; have M3 := hid_of (M2.out.read PL.out HK.out.1 HK.out.2.1))
        | (have hz := M1; clear hz; go_at_call 17; refine (TR2.out _ M1.out.mi.li.rd).mono ?_; rintro en v2 ⟨rfl, hr, hg⟩; have N2 := hid_of (M1.out.read PL.out hr hg); have c2a : v2.cell? ⟨wr.heap.size, 1, none⟩ = some (.int .i64 0) := N2.out.mi.cell 1; have z2a := N2.out.mi.fz 1; have M2 : Hid (QD X0 (v2.setCell ⟨wr.heap.size, 1, none⟩ (.int .i64 t2.1)) be e cap (some ⟨b, off, none⟩) f ob w.heap.size ({ c with ds := sl, fx := ⟨none, 0, 0⟩ } : Oc) t2.2 wr.heap.size #[.int .i64 t1.1, .int .i64 t2.1, .slice none 0 0] (.slice sl.a sl.n sl.c) acc.length (flat dEnc acc) acc) := N2.out.set PL.out 1 _; clear hr hg)
        | (go_at_call 17; refine (TR1.out _ ML.out.mi.li.rd).mono ?_; rintro en v1 ⟨rfl, hr, hg⟩; have N1 := hid_of (ML.out.read PL.out hr hg); have c1a : v1.cell? ⟨wr.heap.size, 0, none⟩ = some (.int .i64 0) := N1.out.mi.cell 0; have z1a := N1.out.mi.fz 0; have M1 : Hid (QD X0 (v1.setCell ⟨wr.heap.size, 0, none⟩ (.int .i64 t1.1)) be e cap (some ⟨b, off, none⟩) f ob w.heap.size ({ c with ds := sl, fx := ⟨none, 0, 0⟩ } : Oc) t1.2 wr.heap.size #[.int .i64 t1.1, .int .i64 0, .slice none 0 0] (.slice sl.a sl.n sl.c) acc.length (flat dEnc acc) acc) := N1.out.set PL.out 0 _; clear hr hg))
      have LB2 := hid_of HK.out.2.2
      have kb : kk ≤ 4 := by have := HK.out.2.2.2; omega
      clear HK ML M1 M2 N1 N2 c1a c2a z1a z2a TR1 TR2
      generalize wr.heap.size = D at *
      go_cut [14] from 59 to 103 (fun s_ X => ∃ (st : Sl) (tags : List Int), Hid (QD X0 X be e cap (some ⟨b, off, none⟩) f ob w.heap.size ({ c with ds := sl, fx := ⟨none, 0, 0⟩ } : Oc) x3.2 D #[.int .i64 t1.1, .int .i64 t2.1, .slice st.a st.n st.c] (.slice sl.a sl.n sl.c) acc.length (flat dEnc acc) acc ∧ X.ownsRow X0.heap.size 3 1 (.slice st.a st.n st.c) tags.length (tags.map (Value.int .i64)) ∧ (x3.2.st = false → tags = x3.1)))
      case first =>
        obtain ⟨X1, hX1⟩ : ∃ X1, X1 = v3 := ⟨_, rfl⟩
        rw [← hX1] at M3 ⊢
        clear hX1
        have RR : Hid (x3 = loopS (numS f e 4294967295) kk [] (numS f e 4 t2.2).2) := hid_of (by rw [← E3.out, LB2.out.1]; rfl)
        have LS : Hid (Lp (numS f e 4294967295) x3 kk [] (numS f e 4 t2.2).2) := hid_of (by rw [RR.out]; exact Lp.start _ _ _ fun e => by rw [LB2.out.1, num_zero e]; rfl)
        clear RR LB2 E3
        generalize (numS f e 4 t2.2).2 = sb at *
        have K0 := hid_of (ND.new M3.out)
        have SZ : Hid (D < X1.heap.size ∧ X0.heap.size ≤ X1.heap.size ∧ be < X1.heap.size) := hid_of ⟨(Array.getElem?_eq_some_iff.1 M3.out.mi.bd).1, M3.out.mi.li.size, M3.out.mi.li.rd.bl⟩
        clear M3
        go_wp2_with fail
        go_loopg [14] kk (fun gf s_ wx => ∃ (j : Nat) (tags : List Int) (sx : St) (st : Sl), s_ = .int .i64 (j : Int) ∧ j + gf = kk ∧ Hid (ND X0 X1 wx be e cap (some ⟨b, off, none⟩) f ob w.heap.size ({ c with ds := sl, fx := ⟨none, 0, 0⟩ } : Oc) sx D t1.1 t2.1 st tags (.slice sl.a sl.n sl.c) acc.length (flat dEnc acc) acc ∧ Lp (numS f e 4294967295) x3 gf tags sx ∧ tags.length = j))
        case atStart => exact ⟨0, [], sb, ⟨none, 0, 0⟩, rfl, by omega, K0.out, LS.out, rfl⟩
        case round =>
          clear LS K0 cb
          obtain ⟨j, tags, sx, st, rfl, hj, HK⟩ := hrel
          have cb := HK.out.1.qi.mi.li.rd.c2
          have FIN2 : Hid (gk = 0 ∨ sx.st = true → ∃ (st : Sl) (tags : List Int), Hid (QD X0 wr be e cap (some ⟨b, off, none⟩) f ob w.heap.size ({ c with ds := sl, fx := ⟨none, 0, 0⟩ } : Oc) x3.2 D #[.int .i64 t1.1, .int .i64 t2.1, .slice st.a st.n st.c] (.slice sl.a sl.n sl.c) acc.length (flat dEnc acc) acc ∧ wr.ownsRow X0.heap.size 3 1 (.slice st.a st.n st.c) tags.length (tags.map (Value.int .i64)) ∧ (x3.2.st = false → tags = x3.1))) := fun hm => by
            obtain ⟨l1, l2, l3⟩ := HK.out
            obtain ⟨f1, f2⟩ := l2.fin hm
            refine ⟨st, tags, ?_, own_base l1.tg SZ.out.2.1, fun q => (f2 (by rw [← f1]; exact q)).symm⟩
            rw [f1]
            exact l1.qi
          by_cases hlt2 : j < kk
          rotate_left
          · have dj : decide ((j : Int) < (kk : Int)) = false := decide_eq_false (by omega)
            have FF := hid_of (FIN2.out (.inl (by omega)))
            clear FIN2 HK
            go_wp2
            go_meet
            exact FF.out
          have dj : decide ((j : Int) < (kk : Int)) = true := decide_eq_true (by omega)
          obtain ⟨p2, st2⟩ := sx
          cases st2
          rotate_left
          · have d2 : decide ((p2 : Int) < 0) = false := decide_eq_false (by omega)
            rw [bad_stuck] at cb
            have FF := hid_of (FIN2.out (.inr rfl))
            clear FIN2 HK
            go_wp2
            go_meet
            exact FF.out
          rw [bad_live] at cb
          obtain ⟨g2, rfl⟩ : ∃ g2, gk = g2 + 1 := ⟨gk - 1, by omega⟩
          clear FIN2
          have LDD := hid_of (HK.out.1.drew PL.out SZ.out.2.2)
          have NX2 := hid_of (And.intro (HK.out.2.1.next rfl) HK.out.2.2)
          have TL : Hid (tags.length ≤ 1000) := hid_of (by have := HK.out.2.2; omega)
          have TR5 : Hid (∀ X, DRd X be (some ⟨b, off, none⟩) e cap f ⟨p2, false⟩ → Calls Try.prog 17 #[.pointer (some ⟨be, 0, none⟩), .int .i64 4294967295] X (PostV X be (some ⟨b, off, none⟩) e cap f (.int .i64 (numS f e 4294967295 ⟨p2, false⟩).1) (numS f e 4294967295 ⟨p2, false⟩).2)) := fun X hX => rnumber_of X be e cap _ f _ hX 4294967295 (by omega) (by omega)
          have cD : wr.drew.cell? ⟨D, 2, none⟩ = some (.slice st.a st.n st.c) := LDD.out.qi.mi.cell 2
          clear HK
          generalize numS f e 4294967295 ⟨p2, false⟩ = t5 at *
          go_wp2
          refine wp_region_held_drew (S := (fun _ => True)) (by kernel_rfl) trivial (fun hHeld => ?_)
          refine wpAnyH_take (i := 0) (v := ?_) rfl (by kernel_rfl) (by kernel_rfl) (by kernel_rfl) (fun _ _ _ h => h) (Or.inl ⟨by kernel_rfl, ?y0t⟩) hHeld ?r0t
          case y0t => (intro wq hSw; go_simp; try rfl)
          simp only [Act.put, List.setIfInBounds_toArray, List.set_cons_zero, List.set_cons_succ]
          refine wpAnyH_take (i := 2) (v := ?_) rfl (by kernel_rfl) (by kernel_rfl) (by kernel_rfl) (fun _ _ _ h => h) (Or.inl ⟨by kernel_rfl, ?y2t⟩) hHeld ?r2t
          case y2t => (intro wq hSw; go_simp; try rfl)
          simp only [Act.put, List.setIfInBounds_toArray, List.set_cons_zero, List.set_cons_succ]
          refine wpAnyH_ready (rs := [1, 3]) (by kernel_rfl) (by simp) ?_
          refine AllReadyH.cons rfl (fun K hK => ?_) (AllReadyH.cons rfl (fun K hK => ?_) AllReadyH.nil)
          · go_simp
            refine hK.out _ _ trivial (fun _ => ?_)
            clear hK K
            refine wpAnyH_ready (rs := [3]) (by kernel_rfl) (by simp) ?_
            refine AllReadyH.cons rfl (fun K hK => ?_) AllReadyH.nil
            go_simp
            go_wp2_with (go_at_call 17; refine (TR5.out _ LDD.out.qi.mi.li.rd).mono ?_; rintro en v5 ⟨rfl, hr, hg⟩; obtain ⟨s', Y, hrun, cY, fY, cX, cA, HNX⟩ := (LDD.out.read PL.out SZ.out.2.2 hr hg).app PL.out SZ.out.1 SZ.out.2.1 t5.1 TL.out; clear hr hg)
            refine hK.out _ _ trivial (fun _ => ?_)
            clear hK K
            refine wpAnyH_ready (rs := [4]) (by kernel_rfl) (by simp) ?_
            refine AllReadyH.cons rfl (fun K hK => ?_) AllReadyH.nil
            go_simp
            refine hK.out _ _ trivial (fun _ => ?_)
            clear hK K
            refine wpAnyH_ready (rs := [5]) (by kernel_rfl) (by simp) ?_
            refine AllReadyH.cons rfl (fun K hK => ?_) AllReadyH.nil
            go_simp
            refine hK.out _ _ trivial (fun _ => ?_)
            clear hK K
            refine wpAnyH_ready (rs := [6]) (by kernel_rfl) (by simp) ?_
            refine AllReadyH.cons rfl (fun K hK => ?_) AllReadyH.nil
            go_simp
            refine hK.out _ _ trivial (fun _ => ?_)
            clear hK K
            refine wpAnyH_ready (rs := [7]) (by kernel_rfl) (by simp) ?_
            refine AllReadyH.cons rfl (fun K hK => ?_) AllReadyH.nil
            go_simp
            refine hK.out _ _ trivial (fun _ => ?_)
            clear hK K
            refine wpAnyH_done (by kernel_rfl) ?_ _
            go_wp2_with fail
            go_roundg g2
            case measure => omega
            case rel => exact ⟨j + 1, tags ++ [t5.1], t5.2, s', by simp, by omega, HNX.out, NX2.out.1, by rw [List.length_append, NX2.out.2]; rfl⟩
          · go_simp
            go_wp2_with (go_at_call 17; refine (TR5.out _ LDD.out.qi.mi.li.rd).mono ?_; rintro en v5 ⟨rfl, hr, hg⟩; obtain ⟨s', Y, hrun, cY, fY, cX, cA, HNX⟩ := (LDD.out.read PL.out SZ.out.2.2 hr hg).app PL.out SZ.out.1 SZ.out.2.1 t5.1 TL.out; clear hr hg)
            refine hK.out _ _ trivial (fun _ => ?_)
            clear hK K
            refine wpAnyH_ready (rs := [1, 4]) (by kernel_rfl) (by simp) ?_
            refine AllReadyH.cons rfl (fun K hK => ?_) (AllReadyH.cons rfl (fun K hK => ?_) AllReadyH.nil)
            · go_simp
              refine hK.out _ _ trivial (fun _ => ?_)
              clear hK K
              refine wpAnyH_ready (rs := [4]) (by kernel_rfl) (by simp) ?_
              refine AllReadyH.cons rfl (fun K hK => ?_) AllReadyH.nil
              go_simp
              refine hK.out _ _ trivial (fun _ => ?_)
              clear hK K
              refine wpAnyH_ready (rs := [5]) (by kernel_rfl) (by simp) ?_
              refine AllReadyH.cons rfl (fun K hK => ?_) AllReadyH.nil
              go_simp
              refine hK.out _ _ trivial (fun _ => ?_)
              clear hK K
              refine wpAnyH_ready (rs := [6]) (by kernel_rfl) (by simp) ?_
              refine AllReadyH.cons rfl (fun K hK => ?_) AllReadyH.nil
              go_simp
              refine hK.out _ _ trivial (fun _ => ?_)
              clear hK K
              refine wpAnyH_ready (rs := [7]) (by kernel_rfl) (by simp) ?_
              refine AllReadyH.cons rfl (fun K hK => ?_) AllReadyH.nil
              go_simp
              refine hK.out _ _ trivial (fun _ => ?_)
              clear hK K
              refine wpAnyH_done (by kernel_rfl) ?_ _
              go_wp2_with fail
              go_roundg g2
              case measure => omega
              case rel => exact ⟨j + 1, tags ++ [t5.1], t5.2, s', by simp, by omega, HNX.out, NX2.out.1, by rw [List.length_append, NX2.out.2]; rfl⟩
            · go_simp
              refine hK.out _ _ trivial (fun _ => ?_)
              clear hK K
              refine wpAnyH_ready (rs := [1]) (by kernel_rfl) (by simp) ?_
              refine AllReadyH.cons rfl (fun K hK => ?_) AllReadyH.nil
              go_simp
              refine hK.out _ _ trivial (fun _ => ?_)
              clear hK K
              refine wpAnyH_ready (rs := [5]) (by kernel_rfl) (by simp) ?_
              refine AllReadyH.cons rfl (fun K hK => ?_) AllReadyH.nil
              go_simp
              refine hK.out _ _ trivial (fun _ => ?_)
              clear hK K
              refine wpAnyH_ready (rs := [6]) (by kernel_rfl) (by simp) ?_
              refine AllReadyH.cons rfl (fun K hK => ?_) AllReadyH.nil
              go_simp
              refine hK.out _ _ trivial (fun _ => ?_)
              clear hK K
              refine wpAnyH_ready (rs := [7]) (by kernel_rfl) (by simp) ?_
              refine AllReadyH.cons rfl (fun K hK => ?_) AllReadyH.nil
              go_simp
              refine hK.out _ _ trivial (fun _ => ?_)
              clear hK K
              refine wpAnyH_done (by kernel_rfl) ?_ _
              go_wp2_with fail
              go_roundg g2
              case measure => omega
              case rel => exact ⟨j + 1, tags ++ [t5.1], t5.2, s', by simp, by omega, HNX.out, NX2.out.1, by rw [List.length_append, NX2.out.2]; rfl⟩
      case rest =>
        obtain ⟨st, tags, HQ⟩ := hcut
        have k0 : wc.cell? ⟨D, 0, none⟩ = some (.int .i64 t1.1) := HQ.out.1.mi.cell 0
        have k1 : wc.cell? ⟨D, 1, none⟩ = some (.int .i64 t2.1) := HQ.out.1.mi.cell 1
        have k2 : wc.cell? ⟨D, 2, none⟩ = some (.slice st.a st.n st.c) := HQ.out.1.mi.cell 2
        clear M3 E3 LB2 cb
        have AP : Hid (∀ X, QD X0 X be e cap (some ⟨b, off, none⟩) f ob w.heap.size ({ c with ds := sl, fx := ⟨none, 0, 0⟩ } : Oc) x3.2 D #[.int .i64 t1.1, .int .i64 t2.1, .slice st.a st.n st.c] (.slice sl.a sl.n sl.c) acc.length (flat dEnc acc) acc → _) := fun X hX => by
          obtain ⟨i0, hi0, hz0, hz1, hz2⟩ := info_parts info_dsc3
          exact hX.mi.li.app (j := 11) (c' := fun s' => ({ c with ds := s', fx := ⟨none, 0, 0⟩ } : Oc)) PL.out Try.underlying30 hi0 hz0 hz1 hz2 rfl (by omega) (by omega) #[.int .i64 t1.1, .int .i64 t2.1, .slice st.a st.n st.c] rfl (by intro u hu; simp at hu; rcases hu with rfl | rfl | rfl <;> rfl) hX.mi.ow (by have := NX.out.2; omega) rfl (fun Y s' hY => Go.Joins.block_setCell hY _)
        obtain ⟨s', Y, hrun, cY, fY, cX, cA, HNX⟩ := AP.out _ HQ.out.1
        clear AP
        go_wp2_with fail
        go_roundg g'
        case measure => omega
        case rel =>
          refine ⟨i + 1, acc ++ [((t1.1, t2.1, tags), st)], x3.2, s', by simp, by omega, HNX.out.1, by rw [List.length_append, flat_app]; exact HNX.out.2.1, (fun q hq => ?_), ?_, by rw [List.length_append, NX.out.2]; rfl⟩
          · rcases List.mem_append.1 hq with h | h
            · exact HNX.out.2.2 _ _ _ _ _ (by decide) (HQ.out.1.ds q h)
            · rw [List.mem_singleton] at h
              subst h
              exact HNX.out.2.2 _ _ _ _ _ (by decide) HQ.out.2.1
          · rw [List.map_append]
            exact NX.out.1.next2 rfl (x := (t1.1, t2.1, tags)) (s2 := x3.2) (by rw [NXE.out]) (fun q => by rw [NXE.out, HQ.out.2.2 q])
  case rest =>
    obtain ⟨acc9, sl9, H9⟩ := hcut
    have A9 := hid_of H9.out.2
    have G2 := hid_of H9.out.1
    clear H9
    go_upto_block 4 with (go_at_call 17; refine (rnum_nat _ be e cap _ f x9.2 G2.out.rd 65536 (by omega) (by omega)).mono ?_; rintro en w5 ⟨nn, rfl, HN⟩; have G3 := hid_of (G2.out.read HA.out HN.out.1 HN.out.2.1))
    clear G2
    have PL := hid_of (G3.out.pl HA.out)
    have LB := hid_of HN.out.2.2
    have nb : nn ≤ 65536 := by have := HN.out.2.2.2; omega
    clear HN
    go_cut [15] (fun s_ X => ∃ (acc : List (Int × Int × Int × Int)) (sl : Sl), Hid (GS w X be ob (be + 1) (some ⟨b, off, none⟩) e cap f ({ c with ds := sl9, fx := sl } : Oc) ({ o with descs := acc9, fixes := acc } : Ob) x10.2 ∧ (x10.2.st = false → acc = x10.1)))
    case first =>
      obtain ⟨X0, hX0⟩ : ∃ X0, X0 = w5 := ⟨_, rfl⟩
      rw [← hX0] at G3 PL ⊢
      clear hX0
      have RR : Hid (x10 = loopS (fixS f e) nn [] (numS f e 65536 x9.2).2) := hid_of (by rw [← E10.out, LB.out.1]; rfl)
      have LS : Hid (Lp (fixS f e) x10 nn [] (numS f e 65536 x9.2).2) := hid_of (by rw [RR.out]; exact Lp.start _ _ _ fun e => by rw [LB.out.1, num_zero e]; rfl)
      clear RR LB
      generalize (numS f e 65536 x9.2).2 = sa at *
      have L0 := hid_of (G3.out.li)
      go_wp2_with fail
      go_loopg [15] nn (fun gf s_ wx => ∃ (i : Nat) (acc : List (Int × Int × Int × Int)) (s : St) (sl : Sl), s_ = .int .i64 (i : Int) ∧ i + gf = nn ∧ Hid (LI X0 wx be e cap (some ⟨b, off, none⟩) f ob w.heap.size ({ c with ds := sl9, fx := sl } : Oc) s ∧ wx.ownsRow X0.heap.size 56 4 (.slice sl.a sl.n sl.c) acc.length (flat xEnc acc) ∧ Lp (fixS f e) x10 gf acc s ∧ acc.length = i))
      case atStart => exact ⟨0, [], sa, ⟨none, 0, 0⟩, rfl, by omega, L0.out, own_nil _ _ _ _, LS.out, rfl⟩
      case round =>
        clear LS L0
        obtain ⟨i, acc, s, sl, rfl, hi, HL⟩ := hrel
        have cb := HL.out.1.rd.c2
        have FIN : Hid (gk = 0 ∨ s.st = true → ∃ (acc : List (Int × Int × Int × Int)) (sl : Sl), Hid (GS w wr be ob (be + 1) (some ⟨b, off, none⟩) e cap f ({ c with ds := sl9, fx := sl } : Oc) ({ o with descs := acc9, fixes := acc } : Ob) x10.2 ∧ (x10.2.st = false → acc = x10.1))) := fun hm => by
          obtain ⟨l1, l2, l3, l4⟩ := HL.out
          obtain ⟨f1, f2⟩ := l3.fin hm
          refine ⟨acc, sl, ?_, fun e => (f2 (by rw [← f1]; exact e)).symm⟩
          rw [f1]
          exact G3.out.join l1 (fun q => q.fx_ sl acc (own_base l2 (by have := PL.out.lb; omega)))
        by_cases hlt : i < nn
        rotate_left
        · have d1 : decide ((i : Int) < (nn : Int)) = false := decide_eq_false (by omega)
          have FF := hid_of (FIN.out (.inl (by omega)))
          clear FIN HL
          go_wp2
          go_meet
          exact FF.out
        have d1 : decide ((i : Int) < (nn : Int)) = true := decide_eq_true (by omega)
        obtain ⟨p, st⟩ := s
        cases st
        rotate_left
        · have d2 : decide ((p : Int) < 0) = false := decide_eq_false (by omega)
          rw [bad_stuck] at cb
          have FF := hid_of (FIN.out (.inr rfl))
          clear FIN HL
          go_wp2
          go_meet
          exact FF.out
        rw [bad_live] at cb
        obtain ⟨g', rfl⟩ : ∃ g', gk = g' + 1 := ⟨gk - 1, by omega⟩
        clear FIN
        have ML := hid_of (MI.new HL.out.1 HL.out.2.1 #[.int .i64 0, .int .i64 0, .int .i64 0, .int .i64 0] 56)
        have NX := hid_of (And.intro (HL.out.2.2.1.next rfl) HL.out.2.2.2)
        have hI : fixS f e ⟨p, false⟩ = (((numS f e 4294967295 ⟨p, false⟩).1, (octS f e 255 (numS f e 4294967295 ⟨p, false⟩).2).1, (numS f e 16 (octS f e 255 (numS f e 4294967295 ⟨p, false⟩).2).2).1 - 1, (numS f e 4294967295 (numS f e 16 (octS f e 255 (numS f e 4294967295 ⟨p, false⟩).2).2).2).1), (numS f e 4294967295 (numS f e 16 (octS f e 255 (numS f e 4294967295 ⟨p, false⟩).2).2).2).2) := rfl
        rw [hI] at NX
        clear hI HL
        have TR1 : Hid (∀ X, DRd X be (some ⟨b, off, none⟩) e cap f ⟨p, false⟩ → Calls Try.prog 17 #[.pointer (some ⟨be, 0, none⟩), .int .i64 4294967295] X (PostV X be (some ⟨b, off, none⟩) e cap f (.int .i64 (numS f e 4294967295 ⟨p, false⟩).1) (numS f e 4294967295 ⟨p, false⟩).2)) := fun X hX => rnumber_of X be e cap _ f _ hX 4294967295 (by omega) (by omega)
        generalize numS f e 4294967295 ⟨p, false⟩ = t1 at *
        have o2 := octS_bd f e t1.2 OCT.out
        have TR2 : Hid (∀ X, DRd X be (some ⟨b, off, none⟩) e cap f t1.2 → Calls Try.prog 18 #[.pointer (some ⟨be, 0, none⟩), .int .u8 255] X (PostV X be (some ⟨b, off, none⟩) e cap f (.int .u8 (octS f e 255 t1.2).1) (octS f e 255 t1.2).2)) := fun X hX => rone_of X be e cap _ f _ hX 255 (by omega) (by omega)
        generalize octS f e 255 t1.2 = t2 at *
        have o3 := numS_bd f e 16 t2.2 (by omega)
        have TR3 : Hid (∀ X, DRd X be (some ⟨b, off, none⟩) e cap f t2.2 → Calls Try.prog 17 #[.pointer (some ⟨be, 0, none⟩), .int .i64 16] X (PostV X be (some ⟨b, off, none⟩) e cap f (.int .i64 (numS f e 16 t2.2).1) (numS f e 16 t2.2).2)) := fun X hX => rnumber_of X be e cap _ f _ hX 16 (by omega) (by omega)
        generalize numS f e 16 t2.2 = t3 at *
        have TR4 : Hid (∀ X, DRd X be (some ⟨b, off, none⟩) e cap f t3.2 → Calls Try.prog 17 #[.pointer (some ⟨be, 0, none⟩), .int .i64 4294967295] X (PostV X be (some ⟨b, off, none⟩) e cap f (.int .i64 (numS f e 4294967295 t3.2).1) (numS f e 4294967295 t3.2).2)) := fun X hX => rnumber_of X be e cap _ f _ hX 4294967295 (by omega) (by omega)
        generalize numS f e 4294967295 t3.2 = t4 at *
        have u2 : IntKind.i64.wrap t2.1 = t2.1 := by rw [IntWalk.i64_left, IntWalk.wrap64_in] <;> omega
        have u3 : IntKind.i64.wrap (t3.1 - 1) = t3.1 - 1 := by rw [IntWalk.i64_left, IntWalk.wrap64_in] <;> omega
        clear o2 o3
        have AP : Hid (∀ X, MI X0 X be e cap (some ⟨b, off, none⟩) f ob w.heap.size ({ c with ds := sl9, fx := sl } : Oc) t4.2 wr.heap.size #[.int .i64 t1.1, .int .i64 t2.1, .int .i64 (t3.1 - 1), .int .i64 t4.1] 56 56 4 (.slice sl.a sl.n sl.c) acc.length (flat xEnc acc) → _) := fun X hX => by
          obtain ⟨i0, hi0, hz0, hz1, hz2⟩ := info_parts info_fix3
          exact hX.li.app (j := 12) (c' := fun s' => ({ c with ds := sl9, fx := s' } : Oc)) PL.out Try.underlying31 hi0 hz0 hz1 hz2 rfl (by omega) (by omega) #[.int .i64 t1.1, .int .i64 t2.1, .int .i64 (t3.1 - 1), .int .i64 t4.1] rfl (by intro u hu; simp at hu; rcases hu with rfl | rfl | rfl | rfl <;> rfl) hX.ow (by have := NX.out.2; omega) rfl (fun Y s' hY => Go.Joins.block_setCell hY _)
        go_wp2_with (first
          | (have hz := M3; clear hz; go_at_call 17; refine (TR4.out _ M3.out.li.rd).mono ?_; rintro en v4 ⟨rfl, hr, hg⟩; have N4 := hid_of (M3.out.read PL.out hr hg); have c4a : v4.cell? ⟨wr.heap.size, 3, none⟩ = some (.int .i64 0) := N4.out.cell 3; have z4a := N4.out.fz 3; have M4 : Hid (MI X0 (v4.setCell ⟨wr.heap.size, 3, none⟩ (.int .i64 t4.1)) be e cap (some ⟨b, off, none⟩) f ob w.heap.size ({ c with ds := sl9, fx := sl } : Oc) t4.2 wr.heap.size #[.int .i64 t1.1, .int .i64 t2.1, .int .i64 (t3.1 - 1), .int .i64 t4.1] 56 56 4 (.slice sl.a sl.n sl.c) acc.length (flat xEnc acc)) := N4.out.set PL.out 3 _; have k0 : (v4.setCell ⟨wr.heap.size, 3, none⟩ (.int .i64 t4.1)).cell? ⟨wr.heap.size, 0, none⟩ = some (.int .i64 t1.1) := M4.out.cell 0; have k1 : (v4.setCell ⟨wr.heap.size, 3, none⟩ (.int .i64 t4.1)).cell? ⟨wr.heap.size, 1, none⟩ = some (.int .i64 t2.1) := M4.out.cell 1; have k2 : (v4.setCell ⟨wr.heap.size, 3, none⟩ (.int .i64 t4.1)).cell? ⟨wr.heap.size, 2, none⟩ = some (.int .i64 (t3.1 - 1)) := M4.out.cell 2; have k3 : (v4.setCell ⟨wr.heap.size, 3, none⟩ (.int .i64 t4.1)).cell? ⟨wr.heap.size, 3, none⟩ = some (.int .i64 t4.1) := M4.out.cell 3; obtain ⟨s', Y, hrun, cY, fY, cX, cA, HNX⟩ := AP.out _ M4.out; rw [show (v4.setCell ⟨wr.heap.size, 3, none⟩ (.int .i64 t4.1)).heap.size = v4.heap.size from (by simp)] at hrun; clear hr hg)
          | (have hz := M2; clear hz; go_at_call 17; refine (TR3.out _ M2.out.li.rd).mono ?_; rintro en v3 ⟨rfl, hr, hg⟩; have N3 := hid_of (M2.out.read PL.out hr hg); have c3a : v3.cell? ⟨wr.heap.size, 2, none⟩ = some (.int .i64 0) := N3.out.cell 2; have z3a := N3.out.fz 2; have M3 : Hid (MI X0 (v3.setCell ⟨wr.heap.size, 2, none⟩ (.int .i64 (t3.1 - 1))) be e cap (some ⟨b, off, none⟩) f ob w.heap.size ({ c with ds := sl9, fx := sl } : Oc) t3.2 wr.heap.size #[.int .i64 t1.1, .int .i64 t2.1, .int .i64 (t3.1 - 1), .int .i64 0] 56 56 4 (.slice sl.a sl.n sl.c) acc.length (flat xEnc acc)) := N3.out.set PL.out 2 _; clear hr hg)
          | (have hz := M1; clear hz; go_at_call 18; refine (TR2.out _ M1.out.li.rd).mono ?_; rintro en v2 ⟨rfl, hr, hg⟩; have N2 := hid_of (M1.out.read PL.out hr hg); have c2a : v2.cell? ⟨wr.heap.size, 1, none⟩ = some (.int .i64 0) := N2.out.cell 1; have z2a := N2.out.fz 1; have M2 : Hid (MI X0 (v2.setCell ⟨wr.heap.size, 1, none⟩ (.int .i64 t2.1)) be e cap (some ⟨b, off, none⟩) f ob w.heap.size ({ c with ds := sl9, fx := sl } : Oc) t2.2 wr.heap.size #[.int .i64 t1.1, .int .i64 t2.1, .int .i64 0, .int .i64 0] 56 56 4 (.slice sl.a sl.n sl.c) acc.length (flat xEnc acc)) := N2.out.set PL.out 1 _; clear hr hg)
          | (go_at_call 17; refine (TR1.out _ ML.out.li.rd).mono ?_; rintro en v1 ⟨rfl, hr, hg⟩; have N1 := hid_of (ML.out.read PL.out hr hg); have c1a : v1.cell? ⟨wr.heap.size, 0, none⟩ = some (.int .i64 0) := N1.out.cell 0; have z1a := N1.out.fz 0; have M1 : Hid (MI X0 (v1.setCell ⟨wr.heap.size, 0, none⟩ (.int .i64 t1.1)) be e cap (some ⟨b, off, none⟩) f ob w.heap.size ({ c with ds := sl9, fx := sl } : Oc) t1.2 wr.heap.size #[.int .i64 t1.1, .int .i64 0, .int .i64 0, .int .i64 0] 56 56 4 (.slice sl.a sl.n sl.c) acc.length (flat xEnc acc)) := N1.out.set PL.out 0 _; clear hr hg))
        go_roundg g'
        case measure => omega
        case rel => exact ⟨i + 1, acc ++ [(t1.1, t2.1, t3.1 - 1, t4.1)], t4.2, s', by simp, by omega, HNX.out.1, by rw [List.length_append, flat_app]; exact HNX.out.2.1, NX.out.1, by rw [List.length_append, NX.out.2]; rfl⟩
    case rest =>
      obtain ⟨acc10, sl10, H10⟩ := hcut
      have A10 := hid_of H10.out.2
      have GF := hid_of H10.out.1
      clear H10 PL LB
      have EQ : Hid (x10.2.st = false → ({ o with descs := acc9, fixes := acc10 } : Ob) = (objS f e ⟨4, false⟩).1) := hid_of fun q => by
        have s9 : x9.2.st = false := by have q := q; rw [← E10.out] at q; exact rowS_st q
        have s8 : x8.2.st = false := by have q := s9; rw [← E9.out] at q; exact rowS_st q
        have h8 := AO.out s8
        rw [HOB.out, ← h8, A10.out q, A9.out s9]
      clear A9 A10 AO E8 E9 E10 G1 G3
      have hR := HR.out
      have FIW : Hid ((objS f e ⟨4, false⟩).2.st = false → Few (objS f e ⟨4, false⟩).1 ∧ Words (objS f e ⟨4, false⟩).1) := hid_of fun q => ⟨(fine_read OCT.out (by omega) _ q).few, words_read OCT.out (by omega) _ q⟩
      rw [HOB.out] at FIW EQ
      have OBJ : Hid (objS f (e + 4 - 4) ⟨4, false⟩ = objS f e ⟨4, false⟩) := hid_of (by rw [Nat.add_sub_cancel])
      rw [HOB.out] at OBJ
      clear HR HOB
      obtain ⟨l10, p, st⟩ := x10
      simp only at hR
      generalize (⟨x8.1.name, x8.1.key, x8.1.imps, x8.1.code, x8.1.procs, x8.1.names, x8.1.exps, x8.1.ini, x8.1.vars, x8.1.shown, x8.1.strs, x9.1, l10⟩ : Ob) = oF at *
      have k1 := GF.out.rd.c1
      have k2 := GF.out.rd.c2
      clear OCT
      by_cases hp : p < e
      · have hR1 : decR f (e + 4) = ((p : Int), 71) := by rw [hR, if_pos (.inr hp)]
        have p1 : decide ((p : Int) < (e : Int)) = true := decide_eq_true (by omega)
        clear hR FIW EQ OBJ k2
        have WR : Hid (Calls Try.prog 19 #[.pointer (some ⟨be, 0, none⟩)] wc _) := hid_of (wrong_any _ be e cap _ f ⟨p, st⟩ GF.out.rd)
        have RET := hid_of hR1
        clear hR1
        go_wp2_with (go_at_call 19; refine WR.out.mono ?_; rintro en w6 ⟨rfl, hr, hg⟩; have G6 := hid_of (GF.out.read HA.out hr hg); have k6 := G6.out.rd.c2; rw [bad_stuck] at k6; obtain ⟨Z2, z1, z2, HZ⟩ := G6.out.drew.put Oc.zero; rw [bad_stuck] at z2; simp only [Oc.cells, Oc.zero] at z1; clear hr hg)
        go_region
        all_goals
          go_wp2_with fail
          refine ret_cell_tmp2 (p := 2) (q := 3) (r := 4) rfl rfl (loadO_run HZ.out.1) rfl ?_
          exact postC_bad RET.out (by omega) HZ.out.2.1
      have p1 : decide ((p : Int) < (e : Int)) = false := decide_eq_false (by omega)
      cases st
      rotate_left
      · have hR1 : decR f (e + 4) = ((p : Int), 71) := by rw [hR, if_pos (.inl rfl)]
        clear hR FIW EQ OBJ
        rw [bad_stuck] at k2
        have RET := hid_of hR1
        clear hR1
        obtain ⟨Z2, z1, z2, HZ⟩ := GF.out.drew.put Oc.zero
        rw [bad_stuck] at z2
        simp only [Oc.cells, Oc.zero] at z1
        go_wp2_with fail
        go_region
        all_goals
          go_wp2_with fail
          refine ret_cell_tmp2 (p := 2) (q := 3) (r := 4) rfl rfl (loadO_run HZ.out.1) rfl ?_
          exact postC_bad RET.out (by omega) HZ.out.2.1
      rw [bad_live] at k2
      have hR2 : decR f (e + 4) = if rightB oF = true then (0, 0) else (0, 70) := by rw [hR, if_neg (by simp; omega)]
      have hOO := EQ.out rfl
      rw [hOO] at GF
      have FI := FIW.out rfl
      clear hR EQ FIW hOO
      have RG : Hid (∀ X B cc, ObAt X B cc oF → Calls Try.prog 20 #[.agg cc.cells] X fun en Y => en = .returned (.bool (rightB oF)) ∧ Below X.heap.size X Y) := hid_of fun X B cc hX => rright_any X cc _ (hX.rd FI.1) FI.2
      clear FI
      have lo1 := loadO_run GF.out.bx
      cases hr : rightB oF
      · have RET : Hid (decR f (e + 4) = (0, 70)) := hid_of (by rw [hR2, hr]; rfl)
        rw [hr] at RG
        clear hR2 OBJ hr
        go_wp2_with (go_at_call 20; refine (RG.out _ _ _ GF.out.oo).mono ?_; rintro en w6 ⟨rfl, hb5⟩; have D5 := hid_of (GF.out.join (GF.out.li.read (GF.out.pl HA.out) (GF.out.rd.below hb5) (gb_of_below hb5 be)) id); obtain ⟨Z2, z1, z2, HZ⟩ := D5.out.put Oc.zero; simp only [Oc.cells, Oc.zero] at z1; clear hb5)
        refine ret_cell_tmp2 (p := 2) (q := 3) (r := 4) rfl rfl (loadO_run HZ.out.1) rfl ?_
        exact postC_bad RET.out (by omega) HZ.out.2.1
      · have RET : Hid (decR f (e + 4) = (0, 0)) := hid_of (by rw [hR2, hr]; rfl)
        rw [hr] at RG
        clear hR2 hr
        go_wp2_with (go_at_call 20; refine (RG.out _ _ _ GF.out.oo).mono ?_; rintro en w6 ⟨rfl, hb5⟩; have D5 := hid_of (GF.out.join (GF.out.li.read (GF.out.pl HA.out) (GF.out.rd.below hb5) (gb_of_below hb5 be)) id); have lo5 := loadO_run D5.out.bx; obtain ⟨Z2, z1, z2, HZ⟩ := D5.out.put ({ c with ds := sl9, fx := sl10 } : Oc); clear hb5)
        refine ret_cell_tmp2 (p := 2) (q := 3) (r := 4) rfl rfl (loadO_run HZ.out.1) rfl ?_
        exact ⟨_, by rw [RET.out]; rfl, HZ.out.2.1, (fun h => by rw [RET.out] at h; exact absurd rfl h), fun _ => ⟨be + 1, by have := D5.out.lo.1; omega, by rw [OBJ.out]; exact HZ.out.2.2⟩⟩
/-- The document's Decode, of whatever bytes. -/
theorem rdecode_any (w : World) (a : Option Addr) (len cap : Nat) (f : Nat → Int) (h : Src w a len cap f) (hc : len ≤ cap) : Calls Try.prog 6 #[.slice a len cap] w (PostC w f len) := by
  by_cases h1 : 1048576 < len
  · exact rdecode_long w a len cap f h h1
  by_cases h2 : len < 8
  · exact rdecode_short w a len cap f h h2
  obtain ⟨b, off, rfl⟩ := h.some (by omega)
  by_cases hm : strOfNums (bl f 4) = markS
  · obtain ⟨e, rfl⟩ : ∃ e, len = e + 4 := ⟨len - 4, by omega⟩
    by_cases hs : gotW (e + 4) f (e : Int) = fnv f e
    · exact rdec_main w b off e cap f h hc (by omega) (by omega) hm hs
    · exact rdecode_sum w b off e cap f h hc (by omega) (by omega) hm hs
  · exact rdecode_mark w b off len cap f h hc (by omega) (by omega) hm
end Go.Proofs.Ytepgifapepaheaa
