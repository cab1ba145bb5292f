/-
  Layer 11: types and rows of them; what small functions ask of a row.
-/
import Derived.Test.YtgkfnfilomjphaaDoorVba
namespace Go.Proofs.YtgkfnfilomjphaaDoor
set_option linter.unusedVariables false
set_option linter.unusedSimpArgs false
open Go.ChangeShapes Go.WideShapes Go.ChangeAt Go.RowKit

/-- A field; a type: its form, length, element, base, size and level, where its fields lie, and which they are. -/
structure Fd where
  nm : ByteArray
  ty : Int
  off : Int
def fdE (x : Fd) : Array Value := #[.string x.nm, .int .i64 x.ty, .int .i64 x.off]
structure Tt where
  fm : Int
  ln : Int
  el : Int
  bs : Int
  sl : Sl
  sz : Int
  lv : Int
  fs : List Fd
def ttE (x : Tt) : Array Value := #[.int .i64 x.fm, .int .i64 x.ln, .int .i64 x.el, .int .i64 x.bs, .slice x.sl.a x.sl.n x.sl.c, .int .i64 x.sz, .int .i64 x.lv]
def zeroT : Tt := ⟨0, 0, 0, 0, ⟨none, 0, 0⟩, 0, 0, []⟩
def ZT : Array Value := #[.int .i64 0, .int .i64 0, .int .i64 0, .int .i64 0, .slice none 0 0, .int .i64 0, .int .i64 0]
theorem zeroT_e : ttE zeroT = ZT := rfl
theorem tt_one (x : Tt) : ((ttE x).all fun x => x.oneCell') = true := by simp [ttE, Value.oneCell']
theorem fd_one (x : Fd) : ((fdE x).all fun x => x.oneCell') = true := by simp [fdE, Value.oneCell']
theorem ldY_seal (a : Addr) : loadVar 31 a = ldT 31 a := rfl
theorem stY_seal (a : Addr) (v : Value) : storeVar 31 a v = stT 31 a v := rfl
theorem ldF_seal (a : Addr) : loadVar 33 a = ldT 33 a := rfl
theorem stF_seal (a : Addr) (v : Value) : storeVar 33 a v = stT 33 a v := rfl
/-- Where a row's lists lie. -/
structure Rc where
  li : Sl
  ty : Sl
  al : Sl
  na : Sl
def rcE (c : Rc) : Array Value := #[.slice c.li.a c.li.n c.li.c, .slice c.ty.a c.ty.n c.ty.c, .slice c.al.a c.al.n c.al.c, .slice c.na.a c.na.n c.na.c]
def iE (x : Int) : Array Value := #[.int .i64 x]
/-- A row: the list that it reads, the types that were found, their places' steps. -/
structure RwR (X : World) (b : Nat) (c : Rc) (L T : List Tt) (A : List Int) : Prop where
  bx : BA X b 56 (rcE c)
  li : RdV X 7 c.li L.length (flat ttE L)
  ty : RdV X 7 c.ty T.length (flat ttE T)
  al : RdV X 1 c.al A.length (flat iE A)
  ln : A.length = T.length
theorem RwR.below {X Y : World} {b : Nat} {c : Rc} {L T : List Tt} {A : List Int} (h : RwR X b c L T A) (hb : Below X.heap.size X Y) : RwR Y b c L T A := ⟨h.bx.below hb, h.li.below hb, h.ty.below hb, h.al.below hb, h.ln⟩
def tyD (T : List Tt) (i : Int) : Tt := if 0 ≤ i then (T[i.toNat]?).getD zeroT else zeroT
def alD (A : List Int) (i : Int) : Int := if 0 ≤ i then (A[i.toNat]?).getD 0 else 0
def hasB (T : List Tt) (i : Int) : Bool := decide (0 ≤ i) && decide (i < (T.length : Int))
def isB (T : List Tt) (i f : Int) : Bool := hasB T i && decide ((tyD T i).fm = f)
def thB (T : List Tt) (A : List Int) (i : Int) : Bool := hasB T i && decide (alD A i ≠ 0)
theorem tyD_at {T : List Tt} {n : Nat} (h : n < T.length) : tyD T (n : Int) = T[n] := by unfold tyD; rw [if_pos (by omega), Int.toNat_natCast, List.getElem?_eq_getElem h]; rfl
theorem alD_at {A : List Int} {n : Nat} (h : n < A.length) : alD A (n : Int) = A[n] := by unfold alD; rw [if_pos (by omega), Int.toNat_natCast, List.getElem?_eq_getElem h]; rfl
theorem has_any (w : World) (b : Nat) (c : Rc) (L T : List Tt) (A : List Int) (h : RwR w b c L T A) (i : Int) : Calls Tryd.prog 20 #[.pointer (some ⟨b, 0, none⟩), .int .i64 i] w fun e w' => e = .returned (.bool (hasB T i)) ∧ w' = w := by
  have c1 : w.cell? ⟨b, 1, none⟩ = some (.slice c.ty.a c.ty.n c.ty.c) := h.bx.cell 1
  rw [h.ty.len] at c1
  unfold hasB
  clear h
  by_cases h0 : 0 ≤ i
  · have d0 : decide (0 ≤ i) = true := decide_eq_true h0
    rw [d0, Bool.true_and]
    cases d1 : decide (i < (T.length : Int))
    · go_enter Tryd.func20, Tryd.ntmps20
      go_wp2
      go_ret
      exact ⟨rfl, rfl⟩
    · go_enter Tryd.func20, Tryd.ntmps20
      go_wp2
      go_ret
      exact ⟨rfl, rfl⟩
  · have d0 : decide (0 ≤ i) = false := decide_eq_false h0
    rw [d0, Bool.false_and]
    go_enter Tryd.func20, Tryd.ntmps20
    go_wp2
    go_ret
    exact ⟨rfl, rfl⟩
set_option maxHeartbeats 2000000 in
theorem is_any (w : World) (b : Nat) (c : Rc) (L T : List Tt) (A : List Int) (h : RwR w b c L T A) (i f : Int) : Calls Tryd.prog 16 #[.pointer (some ⟨b, 0, none⟩), .int .i64 i, .int .i64 f] w fun e w' => e = .returned (.bool (isB T i f)) ∧ w' = w := by
  have c1 : w.cell? ⟨b, 1, none⟩ = some (.slice c.ty.a c.ty.n c.ty.c) := h.bx.cell 1
  have HS := hid_of (has_any w b c L T A h i)
  unfold isB
  cases hb : hasB T i
  · rw [hb] at HS
    clear h
    rw [Bool.false_and]
    go_enter Tryd.func16, Tryd.ntmps16
    go_wp2_with (go_at_call 20; refine HS.out.mono ?_; rintro e w1 ⟨rfl, hw⟩; rw [hw]; clear hw)
    go_ret
    exact ⟨rfl, rfl⟩
  · rw [hb] at HS
    unfold hasB at hb
    simp only [Bool.and_eq_true, decide_eq_true_eq] at hb
    obtain ⟨n, rfl⟩ : ∃ n : Nat, i = (n : Int) := ⟨i.toNat, by omega⟩
    have hn : n < T.length := by omega
    rw [tyD_at hn, Bool.true_and]
    rw [h.ty.len] at c1
    obtain ⟨g, off, hga, hg, hc⟩ := h.ty.elem (fun _ => rfl) n hn
    have c2 : w.cell? ⟨g, off + n * 7 + 0, none⟩ = some (.int .i64 T[n].fm) := hc 0 _ rfl
    rw [Nat.add_zero] at c2
    rw [hga] at c1
    have j0 : (0 : Int) ≤ (n : Int) := by omega
    have j1 : (n : Int) < (T.length : Int) := by omega
    generalize T[n].fm = k at *
    clear h hc hb
    cases hk : decide (k = f)
    · have d1 : (k == f) = false := by simpa using hk
      go_enter Tryd.func16, Tryd.ntmps16
      go_wp2_with (go_at_call 20; refine HS.out.mono ?_; rintro e w1 ⟨rfl, hw⟩; rw [hw]; clear hw)
      go_ret
      exact ⟨rfl, rfl⟩
    · have d1 : (k == f) = true := by simpa using hk
      go_enter Tryd.func16, Tryd.ntmps16
      go_wp2_with (go_at_call 20; refine HS.out.mono ?_; rintro e w1 ⟨rfl, hw⟩; rw [hw]; clear hw)
      go_ret
      exact ⟨rfl, rfl⟩
set_option maxHeartbeats 2000000 in
theorem isThings_any (w : World) (b : Nat) (c : Rc) (L T : List Tt) (A : List Int) (h : RwR w b c L T A) (i : Int) : Calls Tryd.prog 28 #[.pointer (some ⟨b, 0, none⟩), .int .i64 i] w fun e w' => e = .returned (.bool (thB T A i)) ∧ w' = w := by
  have c1 : w.cell? ⟨b, 2, none⟩ = some (.slice c.al.a c.al.n c.al.c) := h.bx.cell 2
  have HS := hid_of (has_any w b c L T A h i)
  unfold thB
  cases hb : hasB T i
  · rw [hb] at HS
    clear h
    rw [Bool.false_and]
    go_enter Tryd.func28, Tryd.ntmps28
    go_wp2_with (go_at_call 20; refine HS.out.mono ?_; rintro e w1 ⟨rfl, hw⟩; rw [hw]; clear hw)
    go_ret
    exact ⟨rfl, rfl⟩
  · rw [hb] at HS
    unfold hasB at hb
    simp only [Bool.and_eq_true, decide_eq_true_eq] at hb
    obtain ⟨n, rfl⟩ : ∃ n : Nat, i = (n : Int) := ⟨i.toNat, by omega⟩
    have hn : n < A.length := by have := h.ln; omega
    rw [alD_at hn, Bool.true_and]
    rw [h.al.len] at c1
    obtain ⟨g, off, hga, hg, hc⟩ := h.al.elem (fun _ => rfl) n hn
    have c2 : w.cell? ⟨g, off + n * 1 + 0, none⟩ = some (.int .i64 A[n]) := hc 0 _ rfl
    rw [Nat.add_zero, Nat.mul_one] at c2
    rw [hga] at c1
    have j0 : (0 : Int) ≤ (n : Int) := by omega
    have j1 : (n : Int) < (A.length : Int) := by omega
    generalize A[n] = k at *
    clear h hc hb
    cases hk : decide (k ≠ 0)
    · have d1 : (k != 0) = false := by simpa using hk
      have d2 : decide (k = 0) = true := by simpa using hk
      go_enter Tryd.func28, Tryd.ntmps28
      go_wp2_with (go_at_call 20; refine HS.out.mono ?_; rintro e w1 ⟨rfl, hw⟩; rw [hw]; clear hw)
      go_ret
      exact ⟨rfl, rfl⟩
    · have d1 : (k != 0) = true := by simpa using hk
      have d2 : decide (k = 0) = false := by simpa using hk
      go_enter Tryd.func28, Tryd.ntmps28
      go_wp2_with (go_at_call 20; refine HS.out.mono ?_; rintro e w1 ⟨rfl, hw⟩; rw [hw]; clear hw)
      go_ret
      exact ⟨rfl, rfl⟩
/-- The least multiple of a step from a number on. -/
def ruI (n a : Int) : Int := (n + a - 1).tdiv a * a
theorem roundUp_any (w : World) (n a : Int) (h0 : 0 ≤ n ∧ n ≤ 1099511627776) (ha : a = 1 ∨ a = 4) : Calls Tryd.prog 29 #[.int .i64 n, .int .i64 a] w fun e w' => e = .returned (.int .i64 (ruI n a)) ∧ w' = w := by
  unfold ruI
  have hq : (n + 4 - 1).tdiv 4 = (n + 4 - 1) / 4 := Int.tdiv_eq_ediv_of_nonneg (by omega)
  rcases ha with rfl | rfl
  · have e1 : IntKind.i64.wrap (n + 1) = n + 1 := by rw [IntWalk.i64_left, IntWalk.wrap64_in] <;> omega
    have e2 : IntKind.i64.wrap (n + 1 - 1) = n + 1 - 1 := by rw [IntWalk.i64_left, IntWalk.wrap64_in] <;> omega
    have e3 : IntKind.i64.wrap ((n + 1 - 1).tdiv 1) = (n + 1 - 1).tdiv 1 := by rw [Int.tdiv_one]; exact e2
    have e4 : IntKind.i64.wrap ((n + 1 - 1).tdiv 1 * 1) = (n + 1 - 1).tdiv 1 * 1 := by rw [Int.mul_one]; exact e3
    go_enter Tryd.func29, Tryd.ntmps29
    go_wp2
    go_ret
    exact ⟨by rw [Int.mul_one, Int.tdiv_one, Int.add_sub_cancel]; rfl, rfl⟩
  · have e1 : IntKind.i64.wrap (n + 4) = n + 4 := by rw [IntWalk.i64_left, IntWalk.wrap64_in] <;> omega
    have e2 : IntKind.i64.wrap (n + 4 - 1) = n + 4 - 1 := by rw [IntWalk.i64_left, IntWalk.wrap64_in] <;> omega
    have e3 : IntKind.i64.wrap ((n + 4 - 1).tdiv 4) = (n + 4 - 1).tdiv 4 := by rw [hq, IntWalk.i64_left, IntWalk.wrap64_in] <;> omega
    have e4 : IntKind.i64.wrap ((n + 4 - 1).tdiv 4 * 4) = (n + 4 - 1).tdiv 4 * 4 := by rw [hq, IntWalk.i64_left, IntWalk.wrap64_in] <;> omega
    clear hq
    go_enter Tryd.func29, Tryd.ntmps29
    go_wp2
    go_ret
    exact ⟨rfl, rfl⟩
end Go.Proofs.YtgkfnfilomjphaaDoor
