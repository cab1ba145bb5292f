/-
  What the law on the line needs: numbers that are picked, two rows beside a bus.
-/
import Derived.Test.YtbkkjnafnckleaaBShown
namespace Go.Proofs.Ytbkkjnafnckleaa
open Go.ChangeShapes Go.WideShapes Go.ChangeAt Go.RowKit
attribute [local go_sem ↓] loadSec_seal storeSec_seal eqlSec_seal zeroSec
attribute [local go_sem] loadSec_run storeSec_run rowAt_at rowAt_old rowAt_drew rowAt_drewN roomSec_new roomAt_old roomAt_drew roomAt_drewN putSec_new putRow_past rowSec_put size_put putRow_drew putRow_drewN alloc_drewN setCell_drewN sec_size

set_option linter.unusedVariables false

def pickI (c n : Int) : Int := if c < 0 then -(c + 1) % n else c % n
theorem pickI_bd (c n : Int) (hn : 0 < n) : 0 ≤ pickI c n ∧ pickI c n < n := by
  unfold pickI; split
  · exact ⟨Int.emod_nonneg _ (by omega), Int.emod_lt_of_pos _ hn⟩
  · exact ⟨Int.emod_nonneg _ (by omega), Int.emod_lt_of_pos _ hn⟩
theorem pick_any (c n : Int) (w : World) (c0 : -9223372036854775808 ≤ c) (c1 : c ≤ 9223372036854775807) (n0 : 0 < n) (n1 : n ≤ 9223372036854775807) : Calls Try.prog 20 #[.int .i64 c, .int .i64 n] w fun e w' => e = .returned (.int .i64 (pickI c n)) ∧ w' = w := by
  have hb := pickI_bd c n n0
  by_cases hc : c < 0
  · have HP : Hid (pickI c n = -(c + 1) % n) := if_pos hc
    have k0 : 0 ≤ -(c + 1) := by omega
    have k1 : -(c + 1) ≤ 9223372036854775807 := by omega
    clear hb
    go_enter Try.func20, Try.ntmps20
    go_wp2
    go_ret
    exact ⟨ret_int (by rw [HP.out, ← Int.tmod_eq_emod_of_nonneg k0, Int.neg_tmod]), rfl⟩
  · have HP : Hid (pickI c n = c % n) := if_neg hc
    have k0 : 0 ≤ c := by omega
    clear hb
    go_enter Try.func20, Try.ntmps20
    go_wp2
    go_ret
    exact ⟨ret_int (by rw [HP.out]), rfl⟩
theorem isW_no {a : Int} (h : 1048576 ≤ a) : isW a = false := by unfold isW; exact decide_eq_false (by omega)
theorem step_in_none (L : Lg) (v : Int) (h : L.I = []) : L.step 1 4294967236 v = ((0, 2), L) := by
  have e : L.load 4294967236 = ((0, 2), L) := by
    unfold Lg.load; rw [isW_no (by decide), if_neg (by decide)]
    show L.dev 1 = _
    unfold Lg.dev; rw [h]; rfl
  unfold Lg.step; rw [if_neg (by decide), if_pos rfl, e]
theorem step_in_some (L : Lg) (v x : Int) (r : List Int) (h : L.I = x :: r) : L.step 1 4294967236 v = ((x, 0), { L with I := r }) := by
  have e : L.load 4294967236 = ((x, 0), { L with I := r }) := by
    unfold Lg.load; rw [isW_no (by decide), if_neg (by decide)]
    show L.dev 1 = _
    unfold Lg.dev; rw [h]; rfl
  unfold Lg.step; rw [if_neg (by decide), if_pos rfl, e]
theorem step_out (L : Lg) (v : Int) : L.step 3 4294967236 v = ((0, 0), if L.O.length < 65536 then { L with O := L.O ++ [v % 256] } else L) := by
  have e : L.store 4294967236 v = (0, if L.O.length < 65536 then { L with O := L.O ++ [v % 256] } else L) := by
    unfold Lg.store; rw [isW_no (by decide), if_neg (by decide)]
    rfl
  unfold Lg.step; rw [if_neg (by decide), if_neg (by decide), if_neg (by decide), if_pos rfl, e]
/-- A bus of the call's own, and two rows of bytes of its own, all apart. -/
structure LR (w : World) (b : Nat) (P : Ph) (L : Lg) (X : World) (F U : List Int) (fa : Option Addr) (fc : Nat) (pa : Option Addr) (pc : Nat) : Prop where
  own : Own w b P L X
  fed : SRow X fa fc F
  put : SRow X pa pc U
  f0 : ∀ x, inB fa x → w.heap.size ≤ x ∧ x < X.heap.size ∧ ¬ P.all b x ∧ ¬ inB pa x
  p0 : ∀ x, inB pa x → w.heap.size ≤ x ∧ x < X.heap.size ∧ ¬ P.all b x
theorem LR.step {w : World} {b : Nat} {P P' : Ph} {L L' : Lg} {X Y : World} {F U : List Int} {fa : Option Addr} {fc : Nat} {pa : Option Addr} {pc : Nat} (h : LR w b P L X F U fa fc pa pc) (hs : Stp X b P Y P' L') : LR w b P' L' Y F U fa fc pa pc :=
  ⟨h.own.step hs, h.fed.same fun x hx => hs.tou.block x (h.f0 x hx).2.1 (h.f0 x hx).2.2.1, h.put.same fun x hx => hs.tou.block x (h.p0 x hx).2.1 (h.p0 x hx).2.2,
    fun x hx => ⟨(h.f0 x hx).1, Nat.lt_of_lt_of_le (h.f0 x hx).2.1 hs.tou.size, fun e => (hs.new x e).elim (h.f0 x hx).2.2.1 fun e => by have := (h.f0 x hx).2.1; omega, (h.f0 x hx).2.2.2⟩,
    fun x hx => ⟨(h.p0 x hx).1, Nat.lt_of_lt_of_le (h.p0 x hx).2.1 hs.tou.size, fun e => (hs.new x e).elim (h.p0 x hx).2.2 fun e => by have := (h.p0 x hx).2.1; omega⟩⟩
theorem LR.next {w : World} {b : Nat} {P : Ph} {L : Lg} {X Y : World} {F U : List Int} {fa : Option Addr} {fc : Nat} {pa : Option Addr} {pc : Nat} (h : LR w b P L X F U fa fc pa pc) (hb : Below X.heap.size X Y) : LR w b P L Y F U fa fc pa pc := h.step (Stp.below h.own.bus hb)
theorem Own.tou {w : World} {b : Nat} {P : Ph} {L : Lg} {X Y : World} {M : Nat → Prop} (h : Own w b P L X) (ht : Tou M X Y) (hM : ∀ x, M x → w.heap.size ≤ x ∧ ¬ P.all b x) : Own w b P L Y :=
  ⟨h.bus.tou ht fun x hx => (hM x hx).2, h.all, h.below.trans (ht.below h.below.size fun x hx => (hM x hx).1)⟩
theorem LR.onFed {w : World} {b : Nat} {P : Ph} {L : Lg} {X Y : World} {F U F' : List Int} {fa fa' : Option Addr} {fc fc' : Nat} {pa : Option Addr} {pc : Nat} (h : LR w b P L X F U fa fc pa pc) (hS : SRow Y fa' fc' F') (ht : Tou (inB fa) X Y) (ha : ∀ x, inB fa' x → inB fa x ∨ X.heap.size ≤ x) (hlt : ∀ x, inB fa' x → x < Y.heap.size) : LR w b P L Y F' U fa' fc' pa pc :=
  ⟨h.own.tou ht fun x hx => ⟨(h.f0 x hx).1, (h.f0 x hx).2.2.1⟩, hS, h.put.same fun x hx => ht.block x (h.p0 x hx).2.1 fun e => (h.f0 x e).2.2.2 hx,
    fun x hx => by
      rcases ha x hx with e | e
      · exact ⟨(h.f0 x e).1, hlt x hx, (h.f0 x e).2.2.1, (h.f0 x e).2.2.2⟩
      · exact ⟨Nat.le_trans h.own.below.size e, hlt x hx, fun e2 => by have := h.own.bus.lt x e2; omega, fun e2 => by have := (h.p0 x e2).2.1; omega⟩,
    fun x hx => ⟨(h.p0 x hx).1, Nat.lt_of_lt_of_le (h.p0 x hx).2.1 ht.size, (h.p0 x hx).2.2⟩⟩
theorem LR.onPut {w : World} {b : Nat} {P : Ph} {L : Lg} {X Y : World} {F U U' : List Int} {fa : Option Addr} {fc : Nat} {pa pa' : Option Addr} {pc pc' : Nat} (h : LR w b P L X F U fa fc pa pc) (hS : SRow Y pa' pc' U') (ht : Tou (inB pa) X Y) (ha : ∀ x, inB pa' x → inB pa x ∨ X.heap.size ≤ x) (hlt : ∀ x, inB pa' x → x < Y.heap.size) : LR w b P L Y F U' fa fc pa' pc' :=
  ⟨h.own.tou ht fun x hx => ⟨(h.p0 x hx).1, (h.p0 x hx).2.2⟩, h.fed.same fun x hx => ht.block x (h.f0 x hx).2.1 fun e => (h.f0 x hx).2.2.2 e, hS,
    fun x hx => ⟨(h.f0 x hx).1, Nat.lt_of_lt_of_le (h.f0 x hx).2.1 ht.size, (h.f0 x hx).2.2.1, fun e => by
      rcases ha x e with e2 | e2
      · exact (h.f0 x hx).2.2.2 e2
      · have := (h.f0 x hx).2.1; omega⟩,
    fun x hx => by
      rcases ha x hx with e | e
      · exact ⟨(h.p0 x e).1, hlt x hx, (h.p0 x e).2.2⟩
      · exact ⟨Nat.le_trans h.own.below.size e, hlt x hx, fun e2 => by have := h.own.bus.lt x e2; omega⟩⟩
/-- As a loop's head has it. -/
structure LH (w : World) (b : Nat) (X : World) (F U : List Int) (p : Nat) (fa : Option Addr) (fc : Nat) (pa : Option Addr) (pc : Nat) : Prop where
  ex : ∃ P L, LR w b P L X F U fa fc pa pc ∧ L.I = F.drop p ∧ L.O = U
  le : p ≤ F.length
  len : F.length ≤ p + 65536
  ul : U.length ≤ 65536
/-- A row of texts. -/
def RdS (w : World) (a : Option Addr) (len : Nat) (f : Nat → ByteArray) : Prop :=
  len ≤ 8796093022207 ∧ (len = 0 ∨ ∃ b off, a = some ⟨b, off, none⟩ ∧ ∀ i, i < len → w.cell? ⟨b, off + i, none⟩ = some (.string (f i)) ∧ (f i).size ≤ maxLen)
/-- A row of numbers. -/
def RdI (w : World) (a : Option Addr) (len : Nat) (f : Nat → Int) : Prop :=
  len ≤ maxLen ∧ (len = 0 ∨ ∃ b off, a = some ⟨b, off, none⟩ ∧ ∀ i, i < len → w.cell? ⟨b, off + i, none⟩ = some (.int .i64 (f i)) ∧ -9223372036854775808 ≤ f i ∧ f i ≤ 9223372036854775807)
theorem RdS.at {w : World} {a : Option Addr} {len : Nat} {f : Nat → ByteArray} (h : RdS w a len f) {k : Nat} (hk : k < len) {X : World} (hX : Below w.heap.size w X) : ∃ b off, a = some ⟨b, off, none⟩ ∧ X.cell? ⟨b, off + k, none⟩ = some (.string (f k)) ∧ (f k).size ≤ maxLen := by
  rcases h.2 with e | ⟨b, off, ha, hc⟩
  · omega
  · exact ⟨b, off, ha, (hX.cell (p := ⟨b, off + k, none⟩) (World.block_lt_of_cell? _ _ (hc k hk).1)).trans (hc k hk).1, (hc k hk).2⟩
theorem RdI.at {w : World} {a : Option Addr} {len : Nat} {f : Nat → Int} (h : RdI w a len f) {k : Nat} (hk : k < len) {X : World} (hX : Below w.heap.size w X) : ∃ b off, a = some ⟨b, off, none⟩ ∧ X.cell? ⟨b, off + k, none⟩ = some (.int .i64 (f k)) ∧ -9223372036854775808 ≤ f k ∧ f k ≤ 9223372036854775807 := by
  rcases h.2 with e | ⟨b, off, ha, hc⟩
  · omega
  · exact ⟨b, off, ha, (hX.cell (p := ⟨b, off + k, none⟩) (World.block_lt_of_cell? _ _ (hc k hk).1)).trans (hc k hk).1, (hc k hk).2⟩
end Go.Proofs.Ytbkkjnafnckleaa
