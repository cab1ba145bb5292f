/-
  Both buses, side by side.
-/
import Derived.Test.YtbkkjnafnckleaaRDo
import Derived.Laws.IdiomCopy
namespace Go.Proofs.Ytbkkjnafnckleaa
open Go.ChangeShapes Go.WideShapes Go.ChangeAt Go.RowKit
attribute [local go_sem ↓] loadSec_seal storeSec_seal eqlSec_seal zeroSec
attribute [local go_sem] loadSec_run storeSec_run rowAt_at rowAt_old rowAt_drew rowAt_drewN roomSec_new roomAt_old roomAt_drew roomAt_drewN putSec_new putRow_past rowSec_put size_put putRow_drew putRow_drewN alloc_drewN setCell_drewN sec_size

set_option linter.unusedVariables false

structure Duo (w : World) (b : Nat) (P : Ph) (L : Lg) (r : Nat) (Q : RPh) (K : Lg) (X : World) : Prop where
  own : Own w b P L X
  ref : RBus X r Q K
  all : ∀ x, Q.all r x → w.heap.size ≤ x
  ap : ∀ x, P.all b x → ¬ Q.all r x
theorem Duo.stepB {w X Y : World} {b r : Nat} {P P' : Ph} {Q : RPh} {L L' K : Lg} (h : Duo w b P L r Q K X) (hs : Stp X b P Y P' L') : Duo w b P' L' r Q K Y :=
  ⟨h.own.step hs, h.ref.tou hs.tou h.ap, h.all, fun x hx hq => (hs.new x hx).elim (fun e => h.ap x e hq) fun e => by have := h.ref.lt x hq; omega⟩
theorem Duo.stepR {w X Y : World} {b r : Nat} {P : Ph} {Q Q' : RPh} {L K K' : Lg} (h : Duo w b P L r Q K X) (hs : RStp X r Q Y Q' K') : Duo w b P L r Q' K' Y :=
  ⟨h.own.tou hs.tou fun x hx => ⟨h.all x hx, fun e => h.ap x e hx⟩, hs.bus, fun x hx => (hs.new x hx).elim (h.all x) fun e => Nat.le_trans h.own.below.size e, fun x hx hq => (hs.new x hq).elim (fun e => h.ap x hx e) fun e => by have := h.own.bus.lt x hx; omega⟩
theorem Duo.next {w X Y : World} {b r : Nat} {P : Ph} {Q : RPh} {L K : Lg} (h : Duo w b P L r Q K X) (hb : Below X.heap.size X Y) : Duo w b P L r Q K Y := h.stepB (Stp.below h.own.bus hb)
/-- A block of a caller's own, that is neither's. -/
theorem Duo.cellB {w X Y : World} {b r : Nat} {P P' : Ph} {Q : RPh} {L L' K : Lg} (h : Duo w b P L r Q K X) {g : Nat} (hg : X.heap.size ≤ g) {Z : World} (hz : Below X.heap.size X Z) (hl : g < Z.heap.size) (hs : Stp Z b P Y P' L') : Y.heap[g]? = Z.heap[g]? :=
  hs.tou.block g hl fun e => by have := h.own.bus.lt g e; omega
theorem Duo.cellR {w X Y : World} {b r : Nat} {P : Ph} {Q Q' : RPh} {L K K' : Lg} (h : Duo w b P L r Q K X) {g : Nat} (hg : X.heap.size ≤ g) {Z : World} (hl : g < Z.heap.size) (hs : RStp Z r Q Y Q' K') : Y.heap[g]? = Z.heap[g]? :=
  hs.tou.block g hl fun e => by have := h.ref.lt g e; omega
/-! Words that are copied. -/
theorem info30 : (Try.prog.info? 30).map (fun i => (i.zero, i.size, i.bytes)) = some (some (.int .u32 0), 1, 4) := by kernel_rfl
theorem size30 : (Try.prog.info? 30).map (·.size) = some 1 := by kernel_rfl
def rowW (f : Nat → Int) (len : Nat) : List Value := (List.range len).map fun i => .int .u32 (f i)
theorem rowW_len (f : Nat → Int) (n : Nat) : (rowW f n).length = n := by simp [rowW]
theorem rowW_at (f : Nat → Int) {n i : Nat} (h : i < n) : (rowW f n)[i]? = some (.int .u32 (f i)) := by simp [rowW, h]
theorem rowW_one (f : Nat → Int) (len : Nat) : ∀ u ∈ rowW f len, u.oneCell' = true := by
  intro u hu
  simp [rowW] at hu
  obtain ⟨i, _, rfl⟩ := hu
  rfl
theorem WRow.made {w : World} {base g n c : Nat} {k : Nat} (h : w.ownsRow base 30 1 (.slice (some ⟨g, 0, none⟩) k c) k (madeCells (Value.int .u32 0).cells (k * 1)).toList) (hs : ∃ cur : Array Value, w.heap[g]? = some (.cells cur 30 (0, 0)) ∧ cur.size = n) (hk : k = n) : WRow w g n (fun _ => 0) := by
  subst hk
  obtain ⟨cur', hg', hn'⟩ := hs
  rcases h.2 with ⟨h0, _⟩ | ⟨g', cap, cur, hv, _, hg, _, _, hs, ht⟩
  · simp at h0
  · simp at hv
    obtain ⟨rfl, rfl⟩ := hv
    rw [hg] at hg'
    have e0 : cur = cur' := by injection hg' with h1; injection h1
    subst e0
    have e : cur = (List.replicate k (.int .u32 0)).toArray := by
      rw [List.take_of_length_le (by simp; omega)] at ht
      apply Array.ext'
      rw [ht, Nat.mul_one]
      simpa [Value.cells] using toList_madeCells_one (.int .u32 0) k
    exact ⟨cur, hg, hn', fun i hi => by rw [e]; simp [hi]⟩
theorem WRow.full {w : World} {base g n : Nat} (h : w.ownsRow base 30 1 (.slice (some ⟨g, 0, none⟩) n n) n (madeCells (Value.int .u32 0).cells (n * 1)).toList) : WRow w g n (fun _ => 0) := by
  rcases h.2 with ⟨h0, _⟩ | ⟨g', cap, cur, hv, _, hg, _, _, hs, ht⟩
  · simp at h0
  · have hv' := hv
    simp at hv'
    obtain ⟨rfl, rfl⟩ := hv'
    exact WRow.made h ⟨cur, hg, by omega⟩ rfl
theorem copy_words {w : World} {g n : Nat} {old f : Nat → Int} (h : WRow w g n old) (dl dc : Nat) (a : Option Addr) (len cap : Nat) (hl : len ≤ dl) (hdn : dl ≤ n) (hr : RdW w a len f) : ∃ w', (Builtin.copy_ #[22, 22] 3 #[.slice (some ⟨g, 0, none⟩) dl dc, .slice a len cap]).run Try.prog w = .ok (.int .i64 len) w' ∧ WRow w' g n (fun i => if i < len then f i else old i) ∧ Tou (fun x => x = g) w w' := by
  by_cases h0 : len = 0
  · subst h0
    refine ⟨w, run_copy_none (P := Try.prog) w _ _ 3 30 _ _ _ _ _ _ Try.underlying22 size30 (by simp), h.ext fun i _ => by rw [if_neg (by omega)], Tou.refl _ _⟩
  · rcases hr.2 with e | ⟨b, off, rfl, hc⟩
    · exact absurd e h0
    · obtain ⟨cur, hg, hs, hcur⟩ := h.row
      have hll : (rowW f len).length = len := rowW_len f len
      have e := run_copy_row (P := Try.prog) w 22 22 3 30 g 0 dl dc ⟨b, off, none⟩ len cap cur 30 (rowW f len) Try.underlying22 size30 hg (by rw [hll]; exact (Nat.min_eq_left hl).symm)
        (fun j v hj => by
          have hjl : j < len := by have := (List.getElem?_eq_some_iff.1 hj).1; rwa [hll] at this
          rw [Addr.add_mid, (hc j hjl).1, ← hj, rowW_at f hjl]) (by rw [hll, hs]; omega) (rowW_one f len)
      rw [hll] at e
      refine ⟨_, e, ⟨_, setRow_heap w g cur _ 30 (0, 0) hg, ?_, fun i hi => ?_⟩, ⟨rfl, rfl, rfl, by simp, fun k hk hm => setRow_other w g k _ hm⟩⟩
      · simp only [List.size_toArray, List.length_append, List.length_take, List.length_drop, hll, Array.length_toList]; omega
      · simp only [List.getElem?_toArray, List.take_zero, List.nil_append, Nat.zero_add]
        by_cases h1 : i < len
        · rw [List.getElem?_append_left (by rw [hll]; exact h1), rowW_at f h1, if_pos h1]
        · rw [List.getElem?_append_right (by rw [hll]; omega), hll, List.getElem?_drop, show len + (i - len) = i by omega, if_neg h1]
          have := hcur i hi
          simpa using this
theorem wd_init (f : Nat → Int) (len : Nat) (hf : ∀ i, i < len → 0 ≤ f i ∧ f i ≤ 4294967295) (i : Nat) : (if i < len then f i else 0) = wd (initM f len) i := by
  have e : ∀ k, k < 4 → initM f len (4 * i + k) = if i < len then byteOf (f i) k else 0 := fun k hk => by
    unfold initM
    rw [show (4 * i + k) / 4 = i by omega, show (4 * i + k) % 4 = k by omega]
  have e0 := e 0 (by omega)
  simp only [Nat.add_zero] at e0
  unfold wd
  rw [e0, e 1 (by omega), e 2 (by omega), e 3 (by omega)]
  by_cases h : i < len
  · simp only [if_pos h]
    have := word_back (f i) (hf i h).1 (hf i h).2
    simp only [tgv] at this
    omega
  · simp only [if_neg h]; rfl
end Go.Proofs.Ytbkkjnafnckleaa
