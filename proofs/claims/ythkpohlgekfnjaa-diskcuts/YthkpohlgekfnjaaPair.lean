/-
  The program's disk and the document's, side by side.
-/
import Derived.Test.YthkpohlgekfnjaaRCut
import Derived.Test.YthkpohlgekfnjaaFromsW
namespace Go.Proofs.Ythkpohlgekfnjaa
open Go.ChangeShapes Go.WideShapes Go.ChangeAt Go.RowKit
attribute [local go_sem ↓] loadSec_seal storeSec_seal eqlSec_seal zeroSec
attribute [local go_sem] loadSec_run storeSec_run rowAt_at rowAt_old rowAt_drew rowAt_drewN roomSec_new roomAt_old roomAt_drew roomAt_drewN putSec_new putRow_past rowSec_put size_put putRow_drew putRow_drewN alloc_drewN setCell_drewN sec_size
set_option linter.unusedVariables false

/-- What a write does to a disk, whether it is taken or not. -/
def Dk.next (D E : Dk) (n : Int) (len : Nat) (f : Nat → Int) : Prop := (¬ firstE n D.n len D.m = 0 ∧ E = D) ∨ (firstE n D.n len D.m = 0 ∧ ∃ P g c, E = D.wrote n.toNat P f g c)
def Rk.next (R Q : Rk) (n : Int) (len : Nat) (f : Nat → Int) : Prop := (¬ firstE n R.n len R.m = 0 ∧ Q = R) ∨ (firstE n R.n len R.m = 0 ∧ ∃ g c, Q = R.rowTo n.toNat (strF f 1024) g c)
theorem first_parts {n : Int} {N len m : Nat} (h : firstE n N len m = 0) : 0 ≤ n ∧ n < N ∧ len = 1024 ∧ m < 4096 := by
  unfold firstE placeE dataE wearE at h
  by_cases h1 : n < 0 ∨ (N : Int) ≤ n
  · rw [if_pos h1, if_neg (by decide)] at h; cases h
  · rw [if_neg h1, if_pos rfl] at h
    by_cases h2 : (len : Int) = 1024
    · rw [if_pos h2, if_pos rfl] at h
      by_cases h3 : 4096 ≤ (m : Int)
      · rw [if_pos h3] at h; cases h
      · omega
    · rw [if_neg h2, if_neg (by decide)] at h; cases h
theorem write_step (b : Nat) (D : Dk) (n : Int) (a : Option Addr) (len cap : Nat) (f : Nat → Int) (w : World) (h : Rep w b D) (hf : RdB w a len f) : Calls Try.prog 21 #[.pointer (some ⟨b, 0, none⟩), .int .i64 n, .slice a len cap] w fun e w' => ∃ E, e = .returned (.int .i64 (firstE n D.n len D.m)) ∧ Rep w' b E ∧ D.next E n len f ∧ Tou (D.mut b) w w' ∧ (∀ x, E.mut b x → D.mut b x ∨ w.heap.size ≤ x) ∧ (∀ x, E.fix x → D.fix x ∨ w.heap.size ≤ x) := by
  by_cases hE : firstE n D.n len D.m = 0
  · obtain ⟨h0, h1, h2, h3⟩ := first_parts hE
    subst h2
    obtain ⟨k, rfl⟩ : ∃ k : Nat, n = k := ⟨n.toNat, by omega⟩
    refine (write_good b D k a cap f w h (by omega) h3 hf).mono ?_
    rintro e w' ⟨P, g, c, rfl, hR, ht, hm, hx⟩
    exact ⟨_, by rw [hE], hR, .inr ⟨hE, P, g, c, rfl⟩, ht, hm, hx⟩
  · refine (write_bad b D n a len cap w h hE).mono ?_
    rintro e w' ⟨rfl, hb⟩
    exact ⟨D, rfl, h.below hb, .inl ⟨hE, rfl⟩, Below.tou hb _, fun x hx => .inl hx, fun x hx => .inl hx⟩
theorem rwrite_step (r : Nat) (R : Rk) (n : Int) (a : Option Addr) (len cap : Nat) (f : Nat → Int) (w : World) (h : RepR w r R) (hf : RdB w a len f) : Calls Try.prog 27 #[.pointer (some ⟨r, 0, none⟩), .int .i64 n, .slice a len cap] w fun e w' => ∃ Q, e = .returned (.int .i64 (firstE n R.n len R.m)) ∧ RepR w' r Q ∧ R.next Q n len f ∧ Tou (R.mut r) w w' ∧ (∀ x, Q.mut r x → R.mut r x ∨ w.heap.size ≤ x) := by
  by_cases hE : firstE n R.n len R.m = 0
  · obtain ⟨h0, h1, h2, h3⟩ := first_parts hE
    subst h2
    obtain ⟨k, rfl⟩ : ∃ k : Nat, n = k := ⟨n.toNat, by omega⟩
    refine (rwrite_good r R k a cap f w h (by omega) h3 hf).mono ?_
    rintro e w' ⟨g, c, rfl, hR, ht, hm⟩
    exact ⟨_, by rw [hE], hR, .inr ⟨hE, g, c, rfl⟩, ht, hm⟩
  · refine (rwrite_bad r R n a len cap w h hE).mono ?_
    rintro e w' ⟨rfl, hb⟩
    exact ⟨R, rfl, h.below hb, .inl ⟨hE, rfl⟩, Below.tou hb _, fun x hx => .inl hx⟩
/-- The sectors behind so many writes. -/
def cutS (D : Dk) : Nat → Nat → Nat → Int
  | 0 => D.F
  | k + 1 => upd (cutS D k) (D.wn k) (D.C k)
structure Tied (D : Dk) (R : Rk) : Prop where
  n : R.n = D.n
  m : R.m = D.m
  wn : ∀ k, k < D.m → R.wn k = D.wn k
  C : ∀ k, k < D.m → R.C k = strF (D.C k) 1024
  F : ∀ i, i < D.n → R.F i = strF (D.F i) 1024
  S : ∀ i, i < D.n → D.S i = cutS D D.m i
theorem cutS_wrote (D : Dk) (n P : Nat) (f : Nat → Int) (g c : Nat) : ∀ k, k ≤ D.m → cutS (D.wrote n P f g c) k = cutS D k
  | 0, _ => rfl
  | k + 1, h => by
    show upd (cutS (D.wrote n P f g c) k) (upd D.wn D.m n k) (upd D.C D.m f k) = _
    rw [cutS_wrote D n P f g c k (by omega), upd_ne _ _ (by omega), upd_ne _ _ (by omega)]; rfl
theorem Tied.next {D E : Dk} {R Q : Rk} {n : Int} {len : Nat} {f : Nat → Int} (h : Tied D R) (hD : D.next E n len f) (hR : R.next Q n len f) : Tied E Q := by
  have e : firstE n R.n len R.m = firstE n D.n len D.m := by rw [h.n, h.m]
  rcases hD with ⟨h1, rfl⟩ | ⟨h1, P, g, c, rfl⟩
  · rcases hR with ⟨_, rfl⟩ | ⟨h2, _⟩
    · exact h
    · exact absurd (e ▸ h2) h1
  · rcases hR with ⟨h2, _⟩ | ⟨_, g', c', rfl⟩
    · exact absurd (e.trans h1) h2
    · refine ⟨h.n, by show R.m + 1 = D.m + 1; rw [h.m], fun k hk => ?_, fun k hk => ?_, h.F, fun i hi => ?_⟩
      · show upd R.wn R.m n.toNat k = upd D.wn D.m n.toNat k
        have hk : k < D.m + 1 := hk
        rw [h.m]
        by_cases e : k = D.m
        · rw [e, upd_at, upd_at]
        · rw [upd_ne _ _ e, upd_ne _ _ e]; exact h.wn k (by omega)
      · show upd R.C R.m (strF f 1024) k = strF (upd D.C D.m f k) 1024
        have hk : k < D.m + 1 := hk
        rw [h.m]
        by_cases e : k = D.m
        · rw [e, upd_at, upd_at]
        · rw [upd_ne _ _ e, upd_ne _ _ e]; exact h.C k (by omega)
      · show upd D.S n.toNat f i = upd (cutS (D.wrote n.toNat P f g c) D.m) (upd D.wn D.m n.toNat D.m) (upd D.C D.m f D.m) i
        rw [cutS_wrote _ _ _ _ _ _ _ (Nat.le_refl _), upd_at, upd_at]
        unfold upd
        by_cases e : i = n.toNat
        · rw [if_pos e, if_pos e]
        · rw [if_neg e, if_neg e]; exact h.S i hi
theorem last_cut {D : Dk} {R : Rk} (h : Tied D R) {i : Nat} (hi : i < D.n) : ∀ k, k ≤ D.m → lastR R k i = strF (cutS D k i) 1024
  | 0, _ => h.F i hi
  | k + 1, hk => by
    show (if R.wn k = i then R.C k else lastR R k i) = strF (upd (cutS D k) (D.wn k) (D.C k) i) 1024
    rw [h.wn k (by omega), h.C k (by omega), last_cut h hi k (by omega)]
    unfold upd
    by_cases e : D.wn k = i
    · rw [if_pos e, if_pos e.symm]
    · rw [if_neg e, if_neg (fun h => e h.symm)]
theorem cut_bytes {w : World} {b : Nat} {D : Dk} (h : Rep w b D) {i : Nat} (hi : i < D.n) : ∀ k, k ≤ D.m → ByteF (cutS D k i)
  | 0, _ => (h.secF i hi).2
  | k + 1, hk => by
    show ByteF (upd (cutS D k) (D.wn k) (D.C k) i)
    unfold upd
    by_cases e : i = D.wn k
    · rw [if_pos e]; exact (h.secC k (by omega)).2
    · rw [if_neg e]; exact cut_bytes h hi k (by omega)
/-- Both disks, apart from each other, and from all that was there ahead of B. -/
structure Pair (w : World) (B d : Nat) (D : Dk) (r : Nat) (R : Rk) (X : World) : Prop where
  rd : Rep X d D
  rr : RepR X r R
  tie : Tied D R
  ap1 : ∀ x, D.mut d x ∨ D.fix x → ¬ R.mut r x
  f1 : D.fresh d B
  f2 : ∀ x, R.mut r x → B ≤ x
  below : Below w.heap.size w X
  B0 : w.heap.size ≤ B
  B1 : B ≤ X.heap.size
theorem Pair.next {w X Y : World} {B d r : Nat} {D : Dk} {R : Rk} (h : Pair w B d D r R X) (hb : Below X.heap.size X Y) : Pair w B d D r R Y :=
  ⟨h.rd.below hb, h.rr.below hb, h.tie, h.ap1, h.f1, h.f2, h.below.trans (hb.mono h.below.size), h.B0, Nat.le_trans h.B1 hb.size⟩
/-- A store into a block that is neither's. -/
theorem Pair.set {w X : World} {B d r g k : Nat} {D : Dk} {R : Rk} (h : Pair w B d D r R X) (hg : ¬ (D.mut d g ∨ D.fix g)) (hr : ¬ R.mut r g) (g0 : w.heap.size ≤ g) (v : Value) : Pair w B d D r R (X.setCell ⟨g, k, none⟩ v) :=
  ⟨h.rd.keep (by simp) fun x hx => Below.heap_setCell _ _ _ _ (fun e => hg (by have e : x = g := e; subst e; exact hx)), h.rr.keep (by simp) fun x hx => Below.heap_setCell _ _ _ _ (fun e => hr (by have e : x = g := e; subst e; exact hx)), h.tie, h.ap1, h.f1, h.f2, h.below.setCell g0 _, h.B0, by simpa using h.B1⟩
/-- Behind the program's write: the two are no longer tied. -/
structure Half (w : World) (B d : Nat) (D E : Dk) (r : Nat) (R : Rk) (n : Int) (len : Nat) (f : Nat → Int) (X : World) : Prop where
  rd : Rep X d E
  rr : RepR X r R
  step : D.next E n len f
  tie : Tied D R
  ap1 : ∀ x, E.mut d x ∨ E.fix x → ¬ R.mut r x
  f1 : E.fresh d B
  f2 : ∀ x, R.mut r x → B ≤ x
  below : Below w.heap.size w X
  B0 : w.heap.size ≤ B
  B1 : B ≤ X.heap.size
theorem Pair.half {w X Y : World} {B d r : Nat} {D E : Dk} {R : Rk} {n : Int} {len : Nat} {f : Nat → Int} (h : Pair w B d D r R X) (hR : Rep Y d E) (hs : D.next E n len f) (ht : Tou (D.mut d) X Y) (hm : ∀ x, E.mut d x → D.mut d x ∨ X.heap.size ≤ x) (hf : ∀ x, E.fix x → D.fix x ∨ X.heap.size ≤ x) : Half w B d D E r R n len f Y := by
  have old : ∀ x, E.mut d x ∨ E.fix x → (D.mut d x ∨ D.fix x) ∨ X.heap.size ≤ x := fun x hx => by
    rcases hx with hx | hx
    · exact (hm x hx).imp .inl id
    · exact (hf x hx).imp .inr id
  have hb : Below B X Y := ht.below h.B1 fun x hx => h.f1 x (.inl hx)
  refine ⟨hR, h.rr.keep ht.size fun x hx => ht.block x (h.rr.lt x hx) (fun hd => h.ap1 x (.inl hd) hx), hs, h.tie, fun x hx hr => ?_, fun x hx => ?_, h.f2, h.below.trans (hb.mono h.B0), h.B0, Nat.le_trans h.B1 ht.size⟩
  · rcases old x hx with h1 | h1
    · exact h.ap1 x h1 hr
    · have := h.rr.lt x hr; omega
  · rcases old x hx with h1 | h1
    · exact h.f1 x h1
    · have := h.B1; omega
theorem Half.next {w X Y : World} {B d r : Nat} {D E : Dk} {R : Rk} {n : Int} {len : Nat} {f : Nat → Int} (h : Half w B d D E r R n len f X) (hb : Below X.heap.size X Y) : Half w B d D E r R n len f Y :=
  ⟨h.rd.below hb, h.rr.below hb, h.step, h.tie, h.ap1, h.f1, h.f2, h.below.trans (hb.mono h.below.size), h.B0, Nat.le_trans h.B1 hb.size⟩
theorem Half.whole {w X Y : World} {B d r : Nat} {D E : Dk} {R Q : Rk} {n : Int} {len : Nat} {f : Nat → Int} (h : Half w B d D E r R n len f X) (hR : RepR Y r Q) (hs : R.next Q n len f) (ht : Tou (R.mut r) X Y) (hm : ∀ x, Q.mut r x → R.mut r x ∨ X.heap.size ≤ x) : Pair w B d E r Q Y := by
  have hb : Below B X Y := ht.below h.B1 fun x hx => h.f2 x hx
  refine ⟨h.rd.keep ht.size fun x hx => ht.block x (h.rd.lt x hx) (fun hr => h.ap1 x hx hr), hR, h.tie.next h.step hs, fun x hx hr => ?_, h.f1, fun x hx => ?_, h.below.trans (hb.mono h.B0), h.B0, Nat.le_trans h.B1 ht.size⟩
  · rcases hm x hr with h1 | h1
    · exact h.ap1 x hx h1
    · have := h.rd.lt x hx; omega
  · rcases hm x hx with h1 | h1
    · exact h.f2 x h1
    · have := h.B1; omega
end Go.Proofs.Ythkpohlgekfnjaa
