/-
  The program's disk and the document's, side by side.
-/
import Derived.Test.YtmjflbleobmjdaaGreatDoorRCut
namespace Go.Proofs.YtmjflbleobmjdaaGreatDoor
open Go.ChangeShapes Go.WideShapes Go.ChangeAt Go.RowKit
attribute [local go_sem ↓] loadSec_seal storeSec_seal eqlSec_seal zeroSec
attribute [local go_sem] loadSec_run storeSec_run rowAt_at rowAt_old rowAt_drew rowAt_drewN roomSec_new roomAt_old roomAt_drew roomAt_drewN putSec_new putRow_past rowSec_put size_put putRow_drew putRow_drewN alloc_drewN setCell_drewN sec_size

set_option linter.unusedVariables false
set_option linter.unusedVariables false

/-- What a write does to a disk, whether it is taken or not. -/
def Dk.next (D E : Dk) (n : Int) (len : Nat) (f : Nat → Int) : Prop := (¬ firstE n D.n len D.m = 0 ∧ E = D) ∨ (firstE n D.n len D.m = 0 ∧ ∃ P g c, E = D.wrote n.toNat P f g c)
def Rk.next (R Q : Rk) (n : Int) (len : Nat) (f : Nat → Int) : Prop := (¬ firstE n R.n len R.m = 0 ∧ Q = R) ∨ (firstE n R.n len R.m = 0 ∧ ∃ g c, Q = R.rowTo n.toNat (strF f 1024) g c)
theorem first_parts {n : Int} {N len m : Nat} (h : firstE n N len m = 0) : 0 ≤ n ∧ n < N ∧ len = 1024 ∧ m < 4096 := by
  unfold firstE placeE dataE wearE at h
  by_cases h1 : n < 0 ∨ (N : Int) ≤ n
  · rw [if_pos h1, if_neg (by decide)] at h; cases h
  · rw [if_neg h1, if_pos rfl] at h
    by_cases h2 : (len : Int) = 1024
    · rw [if_pos h2, if_pos rfl] at h
      by_cases h3 : 4096 ≤ (m : Int)
      · rw [if_pos h3] at h; cases h
      · omega
    · rw [if_neg h2, if_neg (by decide)] at h; cases h
theorem write_step (b : Nat) (D : Dk) (n : Int) (a : Option Addr) (len cap : Nat) (f : Nat → Int) (w : World) (h : Rep w b D) (hf : RdB w a len f) : Calls Tryz.prog 31 #[.pointer (some ⟨b, 0, none⟩), .int .i64 n, .slice a len cap] w fun e w' => ∃ E, e = .returned (.int .i64 (firstE n D.n len D.m)) ∧ Rep w' b E ∧ D.next E n len f ∧ Tou (D.mut b) w w' ∧ (∀ x, E.mut b x → D.mut b x ∨ w.heap.size ≤ x) ∧ (∀ x, E.fix x → D.fix x ∨ w.heap.size ≤ x) := by
  by_cases hE : firstE n D.n len D.m = 0
  · obtain ⟨h0, h1, h2, h3⟩ := first_parts hE
    subst h2
    obtain ⟨k, rfl⟩ : ∃ k : Nat, n = k := ⟨n.toNat, by omega⟩
    refine (write_good b D k a cap f w h (by omega) h3 hf).mono ?_
    rintro e w' ⟨P, g, c, rfl, hR, ht, hm, hx⟩
    exact ⟨_, by rw [hE], hR, .inr ⟨hE, P, g, c, rfl⟩, ht, hm, hx⟩
  · refine (write_bad b D n a len cap w h hE).mono ?_
    rintro e w' ⟨rfl, hb⟩
    exact ⟨D, rfl, h.below hb, .inl ⟨hE, rfl⟩, Below.tou hb _, fun x hx => .inl hx, fun x hx => .inl hx⟩
/-- The sectors behind so many writes. -/
def cutS (D : Dk) : Nat → Nat → Nat → Int
  | 0 => D.F
  | k + 1 => upd (cutS D k) (D.wn k) (D.C k)
structure Tied (D : Dk) (R : Rk) : Prop where
  n : R.n = D.n
  m : R.m = D.m
  wn : ∀ k, k < D.m → R.wn k = D.wn k
  C : ∀ k, k < D.m → R.C k = strF (D.C k) 1024
  F : ∀ i, i < D.n → R.F i = strF (D.F i) 1024
  S : ∀ i, i < D.n → D.S i = cutS D D.m i
theorem cutS_wrote (D : Dk) (n P : Nat) (f : Nat → Int) (g c : Nat) : ∀ k, k ≤ D.m → cutS (D.wrote n P f g c) k = cutS D k
  | 0, _ => rfl
  | k + 1, h => by
    show upd (cutS (D.wrote n P f g c) k) (upd D.wn D.m n k) (upd D.C D.m f k) = _
    rw [cutS_wrote D n P f g c k (by omega), upd_ne _ _ (by omega), upd_ne _ _ (by omega)]; rfl
theorem Tied.next {D E : Dk} {R Q : Rk} {n : Int} {len : Nat} {f : Nat → Int} (h : Tied D R) (hD : D.next E n len f) (hR : R.next Q n len f) : Tied E Q := by
  have e : firstE n R.n len R.m = firstE n D.n len D.m := by rw [h.n, h.m]
  rcases hD with ⟨h1, rfl⟩ | ⟨h1, P, g, c, rfl⟩
  · rcases hR with ⟨_, rfl⟩ | ⟨h2, _⟩
    · exact h
    · exact absurd (e ▸ h2) h1
  · rcases hR with ⟨h2, _⟩ | ⟨_, g', c', rfl⟩
    · exact absurd (e.trans h1) h2
    · refine ⟨h.n, by show R.m + 1 = D.m + 1; rw [h.m], fun k hk => ?_, fun k hk => ?_, h.F, fun i hi => ?_⟩
      · show upd R.wn R.m n.toNat k = upd D.wn D.m n.toNat k
        have hk : k < D.m + 1 := hk
        rw [h.m]
        by_cases e : k = D.m
        · rw [e, upd_at, upd_at]
        · rw [upd_ne _ _ e, upd_ne _ _ e]; exact h.wn k (by omega)
      · show upd R.C R.m (strF f 1024) k = strF (upd D.C D.m f k) 1024
        have hk : k < D.m + 1 := hk
        rw [h.m]
        by_cases e : k = D.m
        · rw [e, upd_at, upd_at]
        · rw [upd_ne _ _ e, upd_ne _ _ e]; exact h.C k (by omega)
      · show upd D.S n.toNat f i = upd (cutS (D.wrote n.toNat P f g c) D.m) (upd D.wn D.m n.toNat D.m) (upd D.C D.m f D.m) i
        rw [cutS_wrote _ _ _ _ _ _ _ (Nat.le_refl _), upd_at, upd_at]
        unfold upd
        by_cases e : i = n.toNat
        · rw [if_pos e, if_pos e]
        · rw [if_neg e, if_neg e]; exact h.S i hi
theorem last_cut {D : Dk} {R : Rk} (h : Tied D R) {i : Nat} (hi : i < D.n) : ∀ k, k ≤ D.m → lastR R k i = strF (cutS D k i) 1024
  | 0, _ => h.F i hi
  | k + 1, hk => by
    show (if R.wn k = i then R.C k else lastR R k i) = strF (upd (cutS D k) (D.wn k) (D.C k) i) 1024
    rw [h.wn k (by omega), h.C k (by omega), last_cut h hi k (by omega)]
    unfold upd
    by_cases e : D.wn k = i
    · rw [if_pos e, if_pos e.symm]
    · rw [if_neg e, if_neg (fun h => e h.symm)]
theorem cut_bytes {w : World} {b : Nat} {D : Dk} (h : Rep w b D) {i : Nat} (hi : i < D.n) : ∀ k, k ≤ D.m → ByteF (cutS D k i)
  | 0, _ => (h.secF i hi).2
  | k + 1, hk => by
    show ByteF (upd (cutS D k) (D.wn k) (D.C k) i)
    unfold upd
    by_cases e : i = D.wn k
    · rw [if_pos e]; exact (h.secC k (by omega)).2
    · rw [if_neg e]; exact cut_bytes h hi k (by omega)
end Go.Proofs.YtmjflbleobmjdaaGreatDoor
