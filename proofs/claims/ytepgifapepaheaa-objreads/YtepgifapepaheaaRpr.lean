/-
  Layer 7: what the reader reads of a procedure: where it begins; its name and whether it is exported, put behind those ahead.
-/
import Derived.Test.YtepgifapepaheaaRrd
import Derived.Deep.Cut
import Derived.Deep.CutRange
import Derived.Deep.DeepCutAuto
namespace Go.Proofs.Ytepgifapepaheaa
set_option linter.unusedVariables false
set_option linter.unusedSimpArgs false
open Go.ChangeShapes Go.WideShapes Go.ChangeAt Go.RowKit

/-- An object's cells. -/
structure Oc where
  nm : ByteArray
  key : Int
  im : Sl
  co : Sl
  pr : Sl
  na : Sl
  ex : Sl
  ini : Int
  va : Sl
  sh : Sl
  st : Sl
  ds : Sl
  fx : Sl
def Oc.cells (o : Oc) : Array Value := #[.string o.nm, .int .u32 o.key, .slice o.im.a o.im.n o.im.c, .slice o.co.a o.co.n o.co.c, .slice o.pr.a o.pr.n o.pr.c, .slice o.na.a o.na.n o.na.c, .slice o.ex.a o.ex.n o.ex.c, .int .i64 o.ini, .slice o.va.a o.va.n o.va.c, .slice o.sh.a o.sh.n o.sh.c, .slice o.st.a o.st.n o.st.c, .slice o.ds.a o.ds.n o.ds.c, .slice o.fx.a o.fx.n o.fx.c]
def OAt (w : World) (ob : Nat) (o : Oc) : Prop := w.heap[ob]? = some (.cells o.cells 33 (0, 0))
/-- All but some blocks is as it was. -/
structure Tq (X Y : World) (P : Nat → Prop) : Prop where
  os : Y.os = X.os
  tape : Y.tape = X.tape
  output : Y.output = X.output
  size : X.heap.size ≤ Y.heap.size
  blk : ∀ k, k < X.heap.size → ¬ P k → Y.heap[k]? = X.heap[k]?
theorem Tq.trans {X Y Z : World} {P : Nat → Prop} (h : Tq X Y P) (h2 : Tq Y Z P) : Tq X Z P :=
  ⟨h2.os.trans h.os, h2.tape.trans h.tape, h2.output.trans h.output, Nat.le_trans h.size h2.size, fun k hk hp => (h2.blk k (Nat.lt_of_lt_of_le hk h.size) hp).trans (h.blk k hk hp)⟩
theorem Tq.gb {X Y : World} {P : Nat → Prop} {o : Option Nat} (h : X.grownBy Y o) (hp : ∀ k, o = some k → P k) : Tq X Y P := ⟨h.os, h.tape, h.output, h.size, fun k hk hn => h.block k hk fun e => hn (hp k e.symm)⟩
theorem Tq.below {X Y : World} {P : Nat → Prop} (h : Below X.heap.size X Y) : Tq X Y P := ⟨h.os, h.tape, h.output, h.size, fun k hk _ => h.block k hk⟩
theorem Tq.set {X : World} {P : Nat → Prop} {g j : Nat} {v : Value} (hp : P g) : Tq X (X.setCell ⟨g, j, none⟩ v) P := ⟨rfl, rfl, rfl, by simp, fun k hk hn => Below.heap_setCell _ _ _ _ (fun e => hn (e ▸ hp))⟩
theorem Tq.mono {X Y : World} {P Q : Nat → Prop} (h : Tq X Y P) (hpq : ∀ k, k < X.heap.size → P k → Q k) : Tq X Y Q := ⟨h.os, h.tape, h.output, h.size, fun k hk hn => h.blk k hk fun hp => hn (hpq k hk hp)⟩
theorem Tq.own {X Y : World} {P : Nat → Prop} {B : Nat} {e : TypeId} {k : Nat} {v : Value} {n : Nat} {xs : List Value} (h : Tq X Y P) (ho : X.ownsRow B e k v n xs) (hne : ∀ g, v.ownBlock = some g → ¬ P g) : Y.ownsRow B e k v n xs := by
  refine ⟨ho.1, ?_⟩
  rcases ho.2 with hn | ⟨g, cap, cur, hv, hb1, hg1, rest⟩
  · exact .inl hn
  · exact .inr ⟨g, cap, cur, hv, hb1, (h.blk g (Array.getElem?_eq_some_iff.1 hg1).1 (hne g (by rw [hv]; rfl))).trans hg1, rest⟩
theorem Tq.rdr {X Y : World} {P : Nat → Prop} {b len cap : Nat} {a : Option Addr} {f : Nat → Int} {s : St} (h : Tq X Y P) (hr : Rdr X b a len cap f s) (hb : ¬ P b) (ha : ∀ ad, a = some ad → ¬ P ad.block) : Rdr Y b a len cap f s :=
  hr.same h.size (h.blk _ hr.bl hb) fun ad he => h.blk _ (hr.ap ad he).2 (ha ad he)
def appN (t : Array TypeId) (r : TypeId) (xs : Array Value) : Sem Value := Builtin.append_ t r xs
theorem appN_seal (t : Array TypeId) (r : TypeId) (xs : Array Value) : Builtin.append_ t r xs = appN t r xs := rfl
attribute [local go_sem ↓] appN_seal
theorem info_bool : (Try.prog.info? 4).map (fun i => (i.zero, i.size, i.bytes)) = some (some (.bool false), 1, 1) := by kernel_rfl
/-- A text put behind a row of texts. -/
theorem app_str {X : World} {B n : Nat} {v : Value} {xs : List Value} (x : ByteArray) (h : X.ownsRow B 9 1 v n xs) (hB : B ≤ X.heap.size) (hn : n ≤ 100000) :
    ∃ (s : Sl) (Y : World), (appN #[28, 28] 28 #[v, .slice (some ⟨X.heap.size, 0, none⟩) 1 1]).run Try.prog (X.alloc (.cells #[.string x] 9)) = .ok (.slice s.a s.n s.c) Y ∧ Y.ownsRow B 9 1 (.slice s.a s.n s.c) (n + 1) (xs ++ [.string x]) ∧ (X.alloc (.cells #[.string x] 9)).grownBy Y v.ownBlock := by
  obtain ⟨i0, hi0, hz0, hz1, hz2⟩ := info_parts info_str
  have hbl : X.ownsRow B 9 1 v n xs → (X.alloc (.cells #[.string x] 9)).ownsRow B 9 1 v n xs := fun h => h.alloc _
  obtain ⟨v', Y, h1, h2, h3, _⟩ := run_append_own (P := Try.prog) (w := X.alloc (.cells #[.string x] 9)) B 28 28 9 i0 _ 1 16 Try.underlying28 hi0 hz0 hz1 hz2 rfl (by decide) v n xs (hbl h) ⟨X.heap.size, 0, none⟩ 1 1 [.string x] rfl (cell_one _ _ _) (by intro u hu; simp at hu; subst hu; rfl) (by unfold maxLen; omega) (by omega) (by simp; omega)
  obtain ⟨va, vn, vc, rfl⟩ := own_slice h2
  exact ⟨⟨va, vn, vc⟩, Y, h1, h2, h3⟩
theorem app_bool {X : World} {B n : Nat} {v : Value} {xs : List Value} (x : Bool) (h : X.ownsRow B 4 1 v n xs) (hB : B ≤ X.heap.size) (hn : n ≤ 100000) :
    ∃ (s : Sl) (Y : World), (appN #[29, 29] 29 #[v, .slice (some ⟨X.heap.size, 0, none⟩) 1 1]).run Try.prog (X.alloc (.cells #[.bool x] 4)) = .ok (.slice s.a s.n s.c) Y ∧ Y.ownsRow B 4 1 (.slice s.a s.n s.c) (n + 1) (xs ++ [.bool x]) ∧ (X.alloc (.cells #[.bool x] 4)).grownBy Y v.ownBlock := by
  obtain ⟨i0, hi0, hz0, hz1, hz2⟩ := info_parts info_bool
  have hbl : X.ownsRow B 4 1 v n xs → (X.alloc (.cells #[.bool x] 4)).ownsRow B 4 1 v n xs := fun h => h.alloc _
  obtain ⟨v', Y, h1, h2, h3, _⟩ := run_append_own (P := Try.prog) (w := X.alloc (.cells #[.bool x] 4)) B 29 29 4 i0 _ 1 1 Try.underlying29 hi0 hz0 hz1 hz2 rfl (by decide) v n xs (hbl h) ⟨X.heap.size, 0, none⟩ 1 1 [.bool x] rfl (cell_one _ _ _) (by intro u hu; simp at hu; subst hu; rfl) (by unfold maxLen; omega) (by omega) (by simp; omega)
  obtain ⟨va, vn, vc, rfl⟩ := own_slice h2
  exact ⟨⟨va, vn, vc⟩, Y, h1, h2, h3⟩
/-- A procedure: where, its name, whether it is exported. -/
def prcS (f : Nat → Int) (len : Nat) (s : St) : (Int × ByteArray × Bool) × St :=
  let x1 := numS f len 4294967295 s
  let x2 := textS f len 20 x1.2
  let x3 := octS f len 1 x2.2
  ((x1.1, x2.1, x3.1 == 1), x3.2)
/-- What stands while procedures are read: the object's cells with the names and the marks so far. -/
structure PA (X : World) (B ob : Nat) (o : Oc) (l : List (Int × ByteArray × Bool)) : Prop where
  lies : OAt X ob o
  na : X.ownsRow B 9 1 (.slice o.na.a o.na.n o.na.c) l.length (l.map fun p => .string p.2.1)
  ex : X.ownsRow B 4 1 (.slice o.ex.a o.ex.n o.ex.c) l.length (l.map fun p => .bool p.2.2)
def Pq (b ob : Nat) (o : Oc) (k : Nat) : Prop := k = b ∨ k = ob ∨ (Value.slice o.na.a o.na.n o.na.c).ownBlock = some k ∨ (Value.slice o.ex.a o.ex.n o.ex.c).ownBlock = some k
def Oc.put (o : Oc) (na ex : Sl) : Oc := { o with na := na, ex := ex }
theorem OAt.set5 {X : World} {ob : Nat} {o : Oc} (h : OAt X ob o) (s : Sl) : OAt (X.setCell ⟨ob, 5, none⟩ (.slice s.a s.n s.c)) ob (o.put s o.ex) := Go.Joins.block_setCell h _
theorem OAt.set6 {X : World} {ob : Nat} {o : Oc} (h : OAt X ob o) (s : Sl) : OAt (X.setCell ⟨ob, 6, none⟩ (.slice s.a s.n s.c)) ob (o.put o.na s) := Go.Joins.block_setCell h _
theorem OAt.lt {X : World} {ob : Nat} {o : Oc} (h : OAt X ob o) : ob < X.heap.size := (Array.getElem?_eq_some_iff.1 h).1
theorem OAt.tq {X Y : World} {ob : Nat} {o : Oc} {P : Nat → Prop} (h : OAt X ob o) (hg : Tq X Y P) (hp : ¬ P ob) : OAt Y ob o := (hg.blk ob h.lt hp).trans h
theorem tq_app {X Y : World} {x : Obj} {v : Value} {P : Nat → Prop} (hg : (X.alloc x).grownBy Y v.ownBlock) (hp : ∀ k, v.ownBlock = some k → P k) : Tq X Y P := Tq.trans (Tq.below ((Below.refl _ _).alloc (Nat.le_refl _) _)) (Tq.gb hg hp)
/-- A name put behind the names, a mark behind the marks. -/
theorem put_nm {X : World} {B ob : Nat} {o : Oc} {n : Nat} {xs ys : List Value} (x : ByteArray) (hO : OAt X ob o) (hn : X.ownsRow B 9 1 (.slice o.na.a o.na.n o.na.c) n xs) (he : X.ownsRow B 4 1 (.slice o.ex.a o.ex.n o.ex.c) n ys) (hB : B ≤ X.heap.size) (hoB : ob < B) (hl : n ≤ 1000) :
    ∃ (s : Sl) (Y : World), (appN #[28, 28] 28 #[.slice o.na.a o.na.n o.na.c, .slice (some ⟨X.heap.size, 0, none⟩) 1 1]).run Try.prog (X.alloc (.cells #[.string x] 9)) = .ok (.slice s.a s.n s.c) Y ∧ OAt Y ob o ∧ Y.ownsRow B 9 1 (.slice s.a s.n s.c) (n + 1) (xs ++ [.string x]) ∧ Y.ownsRow B 4 1 (.slice o.ex.a o.ex.n o.ex.c) n ys ∧ Tq X Y (fun k => (Value.slice o.na.a o.na.n o.na.c).ownBlock = some k) := by
  obtain ⟨s, Y, h1, h2, h3⟩ := app_str x hn hB (by omega)
  have T := tq_app (P := fun k => (Value.slice o.na.a o.na.n o.na.c).ownBlock = some k) h3 (fun k e => e)
  exact ⟨s, Y, h1, hO.tq T (fun e => by have := own_lo hn ob e; omega), h2, T.own he (fun g hg e => own_two he hn (by decide) hg e), T⟩
theorem put_ex {X : World} {B ob : Nat} {o : Oc} {n m : Nat} {xs ys : List Value} (x : Bool) (hO : OAt X ob o) (hn : X.ownsRow B 9 1 (.slice o.na.a o.na.n o.na.c) n xs) (he : X.ownsRow B 4 1 (.slice o.ex.a o.ex.n o.ex.c) m ys) (hB : B ≤ X.heap.size) (hoB : ob < B) (hl : m ≤ 1000) :
    ∃ (s : Sl) (Y : World), (appN #[29, 29] 29 #[.slice o.ex.a o.ex.n o.ex.c, .slice (some ⟨X.heap.size, 0, none⟩) 1 1]).run Try.prog (X.alloc (.cells #[.bool x] 4)) = .ok (.slice s.a s.n s.c) Y ∧ OAt Y ob o ∧ Y.ownsRow B 4 1 (.slice s.a s.n s.c) (m + 1) (ys ++ [.bool x]) ∧ Y.ownsRow B 9 1 (.slice o.na.a o.na.n o.na.c) n xs ∧ Tq X Y (fun k => (Value.slice o.ex.a o.ex.n o.ex.c).ownBlock = some k) := by
  obtain ⟨s, Y, h1, h2, h3⟩ := app_bool x he hB (by omega)
  have T := tq_app (P := fun k => (Value.slice o.ex.a o.ex.n o.ex.c).ownBlock = some k) h3 (fun k e => e)
  exact ⟨s, Y, h1, hO.tq T (fun e => by have := own_lo he ob e; omega), h2, T.own hn (fun g hg e => own_two hn he (by decide) hg e), T⟩
set_option maxHeartbeats 4000000 in
set_option maxRecDepth 20000 in
theorem cl_prc (w : World) (b len cap : Nat) (a : Option Addr) (f : Nat → Int) (s : St) (h : Rdr w b a len cap f s) (nb q ob B : Nat) (o : Oc) (l : List (Int × ByteArray × Bool)) (hq : By b nb q w) (hP : PA w B ob o l) (hB : B ≤ w.heap.size) (hbB : b < B) (hoB : ob < B) (hob : ob ≠ b) (hnb : nb ≠ ob ∧ nb < B) (hqo : q ≠ ob ∧ q < B) (haB : ∀ ad, a = some ad → ad.block < B ∧ ad.block ≠ ob) (hl : l.length ≤ 1000) :
    Calls Try.prog 35 #[.pointer (some ⟨nb, 0, none⟩), .pointer (some ⟨ob, 0, none⟩), .pointer (some ⟨q, 0, none⟩)] w fun e w' => e = .returned (.int .i64 (prcS f len s).1.1) ∧ Rdr w' b a len cap f (prcS f len s).2 ∧ By b nb q w' ∧ (∃ na ex, PA w' B ob (o.put na ex) (l ++ [(prcS f len s).1])) ∧ Tq w w' (Pq b ob o) := by
  have h1 : Hid (∀ X sx, Rdr X b a len cap f sx → By b nb q X → Calls Try.prog 27 #[.pointer (some ⟨q, 0, none⟩)] X _) := fun X sx hX hB => cl_num X b len cap a f sx hX q hB.bx
  have h2 : Hid (∀ X sx, Rdr X b a len cap f sx → Calls Try.prog 29 #[.pointer (some ⟨b, 0, none⟩), .int .i64 20] X _) := fun X sx hX => text_of X b len cap a f sx hX 20 (by omega) (by omega)
  have h3 : Hid (∀ X sx, Rdr X b a len cap f sx → Calls Try.prog 36 #[.pointer (some ⟨b, 0, none⟩), .int .u8 1] X _) := fun X sx hX => octet_of X b len cap a f sx hX 1 (by omega) (by omega)
  unfold prcS
  simp only
  obtain ⟨x1, hx1⟩ : ∃ x, numS f len 4294967295 s = x := ⟨_, rfl⟩
  rw [hx1]
  obtain ⟨x2, hx2⟩ : ∃ x, textS f len 20 x1.2 = x := ⟨_, rfl⟩
  rw [hx2]
  obtain ⟨x3, hx3⟩ : ∃ x, octS f len 1 x2.2 = x := ⟨_, rfl⟩
  rw [hx3]
  have g1 : Hid (Calls Try.prog 27 #[.pointer (some ⟨q, 0, none⟩)] w (PostR w b a len cap f (.int .i64 x1.1) x1.2)) := by have := h1.out w s h hq; rwa [hx1] at this
  have g2 : Hid (∀ X, Rdr X b a len cap f x1.2 → Calls Try.prog 29 #[.pointer (some ⟨b, 0, none⟩), .int .i64 20] X (PostR X b a len cap f (.string x2.1) x2.2)) := fun X hX => by have := h2.out X x1.2 hX; rwa [hx2] at this
  have g3 : Hid (∀ X, Rdr X b a len cap f x2.2 → Calls Try.prog 36 #[.pointer (some ⟨b, 0, none⟩), .int .u8 1] X (PostR X b a len cap f (.int .u8 x3.1) x3.2)) := fun X hX => by have := h3.out X x2.2 hX; rwa [hx3] at this
  clear h1 h2 h3 hx1 hx2 hx3
  have c1 := hq.1
  have HQ : Hid (By b nb q w) := hq
  have HP : Hid (PA w B ob o l) := hP
  have HAB : Hid (∀ ad, a = some ad → ad.block < B ∧ ad.block ≠ ob) := haB
  have hol := hP.lies.lt
  clear h hq hP haB
  go_enter Try.func35, Try.ntmps35
  go_upto_region 2 with (go_at_call 27; refine g1.out.mono ?_; rintro e w1 ⟨rfl, hr1, hg1⟩)
  have R1 : Hid (Rdr w1 b a len cap f x1.2 ∧ By b nb q w1 ∧ OAt w1 ob o ∧ w1.ownsRow B 9 1 (.slice o.na.a o.na.n o.na.c) l.length (l.map fun p => .string p.2.1) ∧ w1.ownsRow B 4 1 (.slice o.ex.a o.ex.n o.ex.c) l.length (l.map fun p => .bool p.2.2) ∧ w.grownBy w1 (some b)) := ⟨hr1, HQ.out.gb hg1, blk_keep HP.out.lies hg1 hob, own_gb HP.out.na hbB hg1, own_gb HP.out.ex hbB hg1, hg1⟩
  have o5 : w1.cell? ⟨ob, 5, none⟩ = some (.slice o.na.a o.na.n o.na.c) := blk_cell R1.out.2.2.1 5
  have q1 : w1.cell? ⟨q, 0, none⟩ = some (.pointer (some ⟨b, 0, none⟩)) := R1.out.2.1.2.1
  have hs1 := hg1.size
  clear hr1 hg1 g1 c1
  have hPb : ∀ k, some b = some k → Pq b ob o k := fun k e => .inl (by injection e with e; exact e.symm)
  go_cut [] (fun Y => Hid (Rdr Y b a len cap f x2.2 ∧ By b nb q Y ∧ (∃ sn : Sl, OAt Y ob (o.put sn o.ex) ∧ Y.ownsRow B 9 1 (.slice sn.a sn.n sn.c) (l.length + 1) ((l.map fun p => .string p.2.1) ++ [.string x2.1])) ∧ Y.ownsRow B 4 1 (.slice o.ex.a o.ex.n o.ex.c) l.length (l.map fun p => .bool p.2.2) ∧ Tq w Y (Pq b ob o)))
  case first =>
    go_region_with (go_at_call 29; (refine (g2.out _ (R1.out.1.below (by go_grown))).mono ?_; rintro e w2 ⟨rfl, hr2, hg2⟩; have hs2 := hg2.size; simp at hs2; have hoz : ob < w2.heap.size := (by omega); have hoz2 : ob ≠ w2.heap.size := (by omega); have p6 : (w2.alloc (.cells #[.string x2.1] 9)).cell? ⟨ob, 5, none⟩ = some (.slice o.na.a o.na.n o.na.c) := blk_cell ((Below.heap_alloc _ _ _ hoz).trans (blk_keep (X := w1.drew) R1.out.2.2.1 hg2 hob)) 5; have p5 : w2.cell? ⟨ob, 5, none⟩ = some (.slice o.na.a o.na.n o.na.c) := blk_cell (blk_keep (X := w1.drew) R1.out.2.2.1 hg2 hob) 5; obtain ⟨sn, w3, hrun3, O3, n3, e3, t3⟩ := put_nm x2.1 (blk_keep (X := w1.drew) R1.out.2.2.1 hg2 hob) (own_gb (X := w1.drew) R1.out.2.2.2.1 hbB hg2) (own_gb (X := w1.drew) R1.out.2.2.2.2.1 hbB hg2) (by omega) hoB hl; have k5 : w3.cell? ⟨ob, 5, none⟩ = some (.slice o.na.a o.na.n o.na.c) := blk_cell O3 5; have z5 := blk_fz O3 5))
    all_goals
      have T2 : Tq w w2 (Pq b ob o) := (Tq.gb R1.out.2.2.2.2.2 hPb).trans ((Tq.below (Below.refl _ _).drew).trans (Tq.gb hg2 hPb))
      have hlo := own_lo (own_gb (X := w1.drew) R1.out.2.2.2.1 hbB hg2)
      have T3 : Tq w2 (w3.setCell ⟨ob, 5, none⟩ (.slice sn.a sn.n sn.c)) (fun k => k = ob ∨ (Value.slice o.na.a o.na.n o.na.c).ownBlock = some k) := (t3.mono fun k _ h => .inr h).trans (Tq.set (.inl rfl))
      have FIN : Hid (Rdr (w3.setCell ⟨ob, 5, none⟩ (.slice sn.a sn.n sn.c)) b a len cap f x2.2 ∧ By b nb q (w3.setCell ⟨ob, 5, none⟩ (.slice sn.a sn.n sn.c)) ∧ (∃ sn' : Sl, OAt (w3.setCell ⟨ob, 5, none⟩ (.slice sn.a sn.n sn.c)) ob (o.put sn' o.ex) ∧ (w3.setCell ⟨ob, 5, none⟩ (.slice sn.a sn.n sn.c)).ownsRow B 9 1 (.slice sn'.a sn'.n sn'.c) (l.length + 1) ((l.map fun p => .string p.2.1) ++ [.string x2.1])) ∧ (w3.setCell ⟨ob, 5, none⟩ (.slice sn.a sn.n sn.c)).ownsRow B 4 1 (.slice o.ex.a o.ex.n o.ex.c) l.length (l.map fun p => .bool p.2.2) ∧ Tq w (w3.setCell ⟨ob, 5, none⟩ (.slice sn.a sn.n sn.c)) (Pq b ob o)) := by
        refine ⟨T3.rdr hr2 (fun h => by rcases h with h | h; exact hob h.symm; have := hlo _ h; omega) (fun ad he h => by have := HAB.out ad he; rcases h with h | h; exact this.2 h; have := hlo _ h; omega), ?_, ⟨sn, O3.set5 sn, own_set n3 (fun x hx => by have := own_lo n3 x hx; omega)⟩, own_set e3 (fun x hx => by have := own_lo e3 x hx; omega), T2.trans (T3.mono fun k _ h => h.elim (fun h => .inr (.inl h)) (fun h => .inr (.inr (.inl h))))⟩
        have Y2 := (R1.out.2.1.below (Y := w1.drew) (Below.refl _ _).drew).gb hg2
        exact ⟨(World.cell?_of_block (a := ⟨nb, 0, none⟩) (T3.blk nb Y2.2.2.2.2.1 (fun h => by rcases h with h | h; exact hnb.1 h; have := hlo _ h; omega))).trans Y2.1, (World.cell?_of_block (a := ⟨q, 0, none⟩) (T3.blk q Y2.2.2.2.2.2 (fun h => by rcases h with h | h; exact hqo.1 h; have := hlo _ h; omega))).trans Y2.2.1, Y2.2.2.1, Y2.2.2.2.1, Nat.lt_of_lt_of_le Y2.2.2.2.2.1 T3.size, Nat.lt_of_lt_of_le Y2.2.2.2.2.2 T3.size⟩
      clear hr2 hg2 T2 T3 hlo n3 e3 t3 O3
      go_wp2_with fail
      go_meet
      exact FIN.out
  case rest =>
    obtain ⟨R2a, R2b, ⟨sn, R2c, R2d⟩, R2e, R2f⟩ := hcut.out
    have R2 : Hid (Rdr wc b a len cap f x2.2 ∧ By b nb q wc ∧ OAt wc ob (o.put sn o.ex) ∧ wc.ownsRow B 9 1 (.slice sn.a sn.n sn.c) (l.length + 1) ((l.map fun p => .string p.2.1) ++ [.string x2.1]) ∧ wc.ownsRow B 4 1 (.slice o.ex.a o.ex.n o.ex.c) l.length (l.map fun p => .bool p.2.2) ∧ Tq w wc (Pq b ob o)) := ⟨R2a, R2b, R2c, R2d, R2e, R2f⟩
    have o6 : wc.cell? ⟨ob, 6, none⟩ = some (.slice o.ex.a o.ex.n o.ex.c) := blk_cell R2.out.2.2.1 6
    have q2 : wc.cell? ⟨q, 0, none⟩ = some (.pointer (some ⟨b, 0, none⟩)) := R2.out.2.1.2.1
    have hsc := R2f.size
    clear R2a R2b R2c R2d R2e R2f hcut o5 q1 R1 hs1
    go_wp2
    go_region_with (go_at_call 36; (refine (g3.out _ (R2.out.1.below (by go_grown))).mono ?_; rintro e w2 ⟨rfl, hr2, hg2⟩; have hs2 := hg2.size; simp at hs2; have hoz : ob < w2.heap.size := (by omega); have hoz2 : ob ≠ w2.heap.size := (by omega); have p6 : (w2.alloc (.cells #[.bool (x3.1 == 1)] 4)).cell? ⟨ob, 6, none⟩ = some (.slice o.ex.a o.ex.n o.ex.c) := blk_cell ((Below.heap_alloc _ _ _ hoz).trans (blk_keep (X := wc.drew) R2.out.2.2.1 hg2 hob)) 6; have p5 : w2.cell? ⟨ob, 6, none⟩ = some (.slice o.ex.a o.ex.n o.ex.c) := blk_cell (blk_keep (X := wc.drew) R2.out.2.2.1 hg2 hob) 6; obtain ⟨se, w3, hrun3, O3, e3, n3, t3⟩ := put_ex (o := o.put sn o.ex) (x3.1 == 1) (blk_keep (X := wc.drew) R2.out.2.2.1 hg2 hob) (own_gb (X := wc.drew) R2.out.2.2.2.1 hbB hg2) (own_gb (X := wc.drew) R2.out.2.2.2.2.1 hbB hg2) (by omega) hoB hl; simp only [Oc.put] at hrun3; have k5 : w3.cell? ⟨ob, 6, none⟩ = some (.slice o.ex.a o.ex.n o.ex.c) := blk_cell O3 6; have z5 := blk_fz O3 6))
    all_goals
      have T2 : Tq w w2 (Pq b ob o) := R2.out.2.2.2.2.2.trans ((Tq.below (Below.refl _ _).drew).trans (Tq.gb hg2 hPb))
      have hlo := own_lo (own_gb (X := wc.drew) R2.out.2.2.2.2.1 hbB hg2)
      have T3 : Tq w2 (w3.setCell ⟨ob, 6, none⟩ (.slice se.a se.n se.c)) (fun k => k = ob ∨ (Value.slice o.ex.a o.ex.n o.ex.c).ownBlock = some k) := (t3.mono fun k _ h => .inr h).trans (Tq.set (.inl rfl))
      have FIN : Hid (Rdr (w3.setCell ⟨ob, 6, none⟩ (.slice se.a se.n se.c)) b a len cap f x3.2 ∧ By b nb q (w3.setCell ⟨ob, 6, none⟩ (.slice se.a se.n se.c)) ∧ (∃ na ex, PA (w3.setCell ⟨ob, 6, none⟩ (.slice se.a se.n se.c)) B ob (o.put na ex) (l ++ [(x1.1, x2.1, x3.1 == 1)])) ∧ Tq w (w3.setCell ⟨ob, 6, none⟩ (.slice se.a se.n se.c)) (Pq b ob o)) := by
        refine ⟨T3.rdr hr2 (fun h => by rcases h with h | h; exact hob h.symm; have := hlo _ h; omega) (fun ad he h => by have := HAB.out ad he; rcases h with h | h; exact this.2 h; have := hlo _ h; omega), ?_, ⟨sn, se, O3.set6 se, ?_, ?_⟩, T2.trans (T3.mono fun k _ h => h.elim (fun h => .inr (.inl h)) (fun h => .inr (.inr (.inr h))))⟩
        · have Y2 := (R2.out.2.1.below (Y := wc.drew) (Below.refl _ _).drew).gb hg2
          exact ⟨(World.cell?_of_block (a := ⟨nb, 0, none⟩) (T3.blk nb Y2.2.2.2.2.1 (fun h => by rcases h with h | h; exact hnb.1 h; have := hlo _ h; omega))).trans Y2.1, (World.cell?_of_block (a := ⟨q, 0, none⟩) (T3.blk q Y2.2.2.2.2.2 (fun h => by rcases h with h | h; exact hqo.1 h; have := hlo _ h; omega))).trans Y2.2.1, Y2.2.2.1, Y2.2.2.2.1, Nat.lt_of_lt_of_le Y2.2.2.2.2.1 T3.size, Nat.lt_of_lt_of_le Y2.2.2.2.2.2 T3.size⟩
        · rw [List.length_append, List.map_append]; exact own_set n3 (fun x hx => by have := own_lo n3 x hx; omega)
        · rw [List.length_append, List.map_append]; exact own_set e3 (fun x hx => by have := own_lo e3 x hx; omega)
      clear hr2 hg2 T2 T3 hlo n3 e3 t3 O3
      go_wp2
      go_ret
      exact ⟨rfl, FIN.out⟩
end Go.Proofs.Ytepgifapepaheaa
