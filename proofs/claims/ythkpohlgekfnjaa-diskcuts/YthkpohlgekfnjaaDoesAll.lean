/-
  One step by both disks; the two at their making; scripts that are handed in.
-/
import Derived.Test.YthkpohlgekfnjaaDoesW
import Derived.Test.YthkpohlgekfnjaaDoesR
import Derived.Test.YthkpohlgekfnjaaOpenSt
namespace Go.Proofs.Ythkpohlgekfnjaa
open Go.ChangeShapes Go.WideShapes Go.ChangeAt Go.RowKit
attribute [local go_sem ↓] loadSec_seal storeSec_seal eqlSec_seal zeroSec
attribute [local go_sem] loadSec_run storeSec_run rowAt_at rowAt_old rowAt_drew rowAt_drewN roomSec_new roomAt_old roomAt_drew roomAt_drewN putSec_new putRow_past rowSec_put size_put putRow_drew putRow_drewN alloc_drewN setCell_drewN sec_size
set_option linter.unusedVariables false

theorem does_any (w0 : World) (B d : Nat) (D : Dk) (r : Nat) (R : Rk) (s : St) (w : World) (h : Pair w0 B d D r R w) (hs : s.Ok) : Calls Try.prog 12 #[.pointer (some ⟨d, 0, none⟩), .pointer (some ⟨r, 0, none⟩), .agg #[.int .i64 s.Kind, .int .i64 s.N, .int .u8 s.Fill, .int .u8 s.Mark, .int .i64 s.Long]] w fun e w' => e = .returned (.bool true) ∧ ∃ E Q, Pair w0 B d E r Q w' ∧ E.n = D.n := by
  by_cases hk : s.Kind = 1
  · rw [hk]; exact does_write w0 B d D r R s.N s.Fill s.Mark s.Long w h hs.f hs.m
  · by_cases hn : 0 ≤ s.N ∧ s.N < D.n
    · have e : s.N = ((s.N.toNat : Nat) : Int) := by omega
      rw [e]
      exact does_read_good w0 B d D r R s.Kind s.Fill s.Mark s.Long s.N.toNat w h hk (by omega)
    · exact does_read_bad w0 B d D r R s.Kind s.N s.Fill s.Mark s.Long w h hk (by omega)
theorem pair_start {w w1 w2 w3 : World} {d r : Nat} {D : Dk} {R : Rk} (h1 : Below w.heap.size w w1) (hD : Rep w2 d D) (hm : D.m = 0) (hS : D.S = fun _ _ => 0) (hF : D.F = fun _ _ => 0) (hf : D.fresh d w1.heap.size) (h2 : Below w1.heap.size w1 w2)
    (hR : RepR w3 r R) (hn : R.n = D.n) (hRm : R.m = 0) (hRF : ∀ i, i < D.n → R.F i = strF (fun _ => 0) 1024) (hRf : ∀ x, R.mut r x → w2.heap.size ≤ x) (h3 : Below w2.heap.size w2 w3) : Pair w w1.heap.size d D r R w3 where
  rd := hD.below h3
  rr := hR
  tie := ⟨hn, hRm.trans hm.symm, fun k hk => by omega, fun k hk => by omega, fun i hi => by rw [hF]; exact hRF i hi, fun i hi => by rw [hm, hS]; show _ = D.F i; rw [hF]⟩
  ap1 := fun x hx hr => by have := hD.lt x hx; have := hRf x hr; omega
  f1 := hf
  f2 := fun x hx => by have := hRf x hx; have := h2.size; omega
  below := (h1.trans (h2.mono h1.size)).trans (h3.mono (Nat.le_trans h1.size h2.size))
  B0 := h1.size
  B1 := Nat.le_trans h2.size h3.size
/-- A row of steps that may be read. -/
def RdSt (w : World) (a : Option Addr) (len : Nat) (g : Nat → St) : Prop :=
  len ≤ maxLen ∧ (len = 0 ∨ ∃ b off, a = some ⟨b, off, none⟩ ∧ b < w.heap.size ∧ ∀ k, k < len → (g k).Ok ∧ w.cell? ⟨b, off + k * 5, none⟩ = some (.int .i64 (g k).Kind) ∧ w.cell? ⟨b, off + k * 5 + 1, none⟩ = some (.int .i64 (g k).N) ∧ w.cell? ⟨b, off + k * 5 + 2, none⟩ = some (.int .u8 (g k).Fill) ∧ w.cell? ⟨b, off + k * 5 + 3, none⟩ = some (.int .u8 (g k).Mark) ∧ w.cell? ⟨b, off + k * 5 + 4, none⟩ = some (.int .i64 (g k).Long))
theorem cut_img {D : Dk} {R : Rk} (h : Tied D R) : strF (imgF (cutS D D.m)) (D.n * 1024) = strF (imgF D.S) (D.n * 1024) :=
  strF_ext fun i hi => by
    unfold imgF
    rw [h.S (i / 1024) (by omega)]
end Go.Proofs.Ythkpohlgekfnjaa
