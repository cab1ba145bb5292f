/-
  Layer 7: what the reader reads of a procedure: where it begins; its name and whether it is exported, put behind those ahead.
-/
import Derived.Test.YtcppgpcgbggdcaaDoorRrd
import Derived.Deep.Cut
import Derived.Deep.CutRange
import Derived.Deep.DeepCutAuto
namespace Go.Proofs.YtcppgpcgbggdcaaDoor
set_option linter.unusedVariables false
set_option linter.unusedSimpArgs false
open Go.ChangeShapes Go.WideShapes Go.ChangeAt Go.RowKit

/-- An object's cells. -/
structure Oc where
  nm : ByteArray
  key : Int
  im : Sl
  co : Sl
  pr : Sl
  na : Sl
  ex : Sl
  ini : Int
  va : Sl
  sh : Sl
  st : Sl
  ds : Sl
  fx : Sl
def Oc.cells (o : Oc) : Array Value := #[.string o.nm, .int .u32 o.key, .slice o.im.a o.im.n o.im.c, .slice o.co.a o.co.n o.co.c, .slice o.pr.a o.pr.n o.pr.c, .slice o.na.a o.na.n o.na.c, .slice o.ex.a o.ex.n o.ex.c, .int .i64 o.ini, .slice o.va.a o.va.n o.va.c, .slice o.sh.a o.sh.n o.sh.c, .slice o.st.a o.st.n o.st.c, .slice o.ds.a o.ds.n o.ds.c, .slice o.fx.a o.fx.n o.fx.c]
/-- All but some blocks is as it was. -/
structure Tq (X Y : World) (P : Nat → Prop) : Prop where
  os : Y.os = X.os
  tape : Y.tape = X.tape
  output : Y.output = X.output
  size : X.heap.size ≤ Y.heap.size
  blk : ∀ k, k < X.heap.size → ¬ P k → Y.heap[k]? = X.heap[k]?
theorem Tq.trans {X Y Z : World} {P : Nat → Prop} (h : Tq X Y P) (h2 : Tq Y Z P) : Tq X Z P :=
  ⟨h2.os.trans h.os, h2.tape.trans h.tape, h2.output.trans h.output, Nat.le_trans h.size h2.size, fun k hk hp => (h2.blk k (Nat.lt_of_lt_of_le hk h.size) hp).trans (h.blk k hk hp)⟩
theorem Tq.gb {X Y : World} {P : Nat → Prop} {o : Option Nat} (h : X.grownBy Y o) (hp : ∀ k, o = some k → P k) : Tq X Y P := ⟨h.os, h.tape, h.output, h.size, fun k hk hn => h.block k hk fun e => hn (hp k e.symm)⟩
theorem Tq.below {X Y : World} {P : Nat → Prop} (h : Below X.heap.size X Y) : Tq X Y P := ⟨h.os, h.tape, h.output, h.size, fun k hk _ => h.block k hk⟩
theorem Tq.set {X : World} {P : Nat → Prop} {g j : Nat} {v : Value} (hp : P g) : Tq X (X.setCell ⟨g, j, none⟩ v) P := ⟨rfl, rfl, rfl, by simp, fun k hk hn => Below.heap_setCell _ _ _ _ (fun e => hn (e ▸ hp))⟩
theorem Tq.mono {X Y : World} {P Q : Nat → Prop} (h : Tq X Y P) (hpq : ∀ k, k < X.heap.size → P k → Q k) : Tq X Y Q := ⟨h.os, h.tape, h.output, h.size, fun k hk hn => h.blk k hk fun hp => hn (hpq k hk hp)⟩
theorem Tq.own {X Y : World} {P : Nat → Prop} {B : Nat} {e : TypeId} {k : Nat} {v : Value} {n : Nat} {xs : List Value} (h : Tq X Y P) (ho : X.ownsRow B e k v n xs) (hne : ∀ g, v.ownBlock = some g → ¬ P g) : Y.ownsRow B e k v n xs := by
  refine ⟨ho.1, ?_⟩
  rcases ho.2 with hn | ⟨g, cap, cur, hv, hb1, hg1, rest⟩
  · exact .inl hn
  · exact .inr ⟨g, cap, cur, hv, hb1, (h.blk g (Array.getElem?_eq_some_iff.1 hg1).1 (hne g (by rw [hv]; rfl))).trans hg1, rest⟩
theorem Tq.rdr {X Y : World} {P : Nat → Prop} {b len cap : Nat} {a : Option Addr} {f : Nat → Int} {s : St} (h : Tq X Y P) (hr : Rdr X b a len cap f s) (hb : ¬ P b) (ha : ∀ ad, a = some ad → ¬ P ad.block) : Rdr Y b a len cap f s :=
  hr.same h.size (h.blk _ hr.bl hb) fun ad he => h.blk _ (hr.ap ad he).2 (ha ad he)
def appN (t : Array TypeId) (r : TypeId) (xs : Array Value) : Sem Value := Builtin.append_ t r xs
theorem appN_seal (t : Array TypeId) (r : TypeId) (xs : Array Value) : Builtin.append_ t r xs = appN t r xs := rfl
attribute [local go_sem ↓] appN_seal
theorem info_bool : (Tryd.prog.info? 4).map (fun i => (i.zero, i.size, i.bytes)) = some (some (.bool false), 1, 1) := by kernel_rfl
/-- A text put behind a row of texts. -/
theorem app_str {X : World} {B n : Nat} {v : Value} {xs : List Value} (x : ByteArray) (h : X.ownsRow B 9 1 v n xs) (hB : B ≤ X.heap.size) (hn : n ≤ 100000) :
    ∃ (s : Sl) (Y : World), (appN #[46, 46] 46 #[v, .slice (some ⟨X.heap.size, 0, none⟩) 1 1]).run Tryd.prog (X.alloc (.cells #[.string x] 9)) = .ok (.slice s.a s.n s.c) Y ∧ Y.ownsRow B 9 1 (.slice s.a s.n s.c) (n + 1) (xs ++ [.string x]) ∧ (X.alloc (.cells #[.string x] 9)).grownBy Y v.ownBlock := by
  obtain ⟨i0, hi0, hz0, hz1, hz2⟩ := info_parts info_str
  have hbl : X.ownsRow B 9 1 v n xs → (X.alloc (.cells #[.string x] 9)).ownsRow B 9 1 v n xs := fun h => h.alloc _
  obtain ⟨v', Y, h1, h2, h3, _⟩ := run_append_own (P := Tryd.prog) (w := X.alloc (.cells #[.string x] 9)) B 46 46 9 i0 _ 1 16 Tryd.underlying46 hi0 hz0 hz1 hz2 rfl (by decide) v n xs (hbl h) ⟨X.heap.size, 0, none⟩ 1 1 [.string x] rfl (cell_one _ _ _) (by intro u hu; simp at hu; subst hu; rfl) (by unfold maxLen; omega) (by omega) (by simp; omega)
  obtain ⟨va, vn, vc, rfl⟩ := own_slice h2
  exact ⟨⟨va, vn, vc⟩, Y, h1, h2, h3⟩
/-- A procedure: where, its name, whether it is exported. -/
def prcS (f : Nat → Int) (len : Nat) (s : St) : (Int × ByteArray × Bool) × St :=
  let x1 := numS f len 4294967295 s
  let x2 := textS f len 20 x1.2
  let x3 := octS f len 1 x2.2
  ((x1.1, x2.1, x3.1 == 1), x3.2)
def Pq (b ob : Nat) (o : Oc) (k : Nat) : Prop := k = b ∨ k = ob ∨ (Value.slice o.na.a o.na.n o.na.c).ownBlock = some k ∨ (Value.slice o.ex.a o.ex.n o.ex.c).ownBlock = some k
def Oc.put (o : Oc) (na ex : Sl) : Oc := { o with na := na, ex := ex }
theorem tq_app {X Y : World} {x : Obj} {v : Value} {P : Nat → Prop} (hg : (X.alloc x).grownBy Y v.ownBlock) (hp : ∀ k, v.ownBlock = some k → P k) : Tq X Y P := Tq.trans (Tq.below ((Below.refl _ _).alloc (Nat.le_refl _) _)) (Tq.gb hg hp)
end Go.Proofs.YtcppgpcgbggdcaaDoor
