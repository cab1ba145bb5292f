/-
  A string's bytes in new memory; images that are no disk's.
-/
import Derived.Test.YthkpohlgekfnjaaRFrom
import Derived.Lib.ConvBytes
namespace Go.Proofs.Ythkpohlgekfnjaa
open Go.ChangeShapes Go.WideShapes Go.ChangeAt Go.RowKit
attribute [local go_sem ↓] loadSec_seal storeSec_seal eqlSec_seal zeroSec
attribute [local go_sem] loadSec_run storeSec_run rowAt_at rowAt_old rowAt_drew rowAt_drewN roomSec_new roomAt_old roomAt_drew roomAt_drewN putSec_new putRow_past rowSec_put size_put putRow_drew putRow_drewN alloc_drewN setCell_drewN sec_size

/-- A row of at least L bytes that may be written. -/
def MRow (X : World) (g L : Nat) : Prop := ∃ (cur : Array Value) (lo hi : Nat), X.heap[g]? = some (.cells cur 5 (lo, hi)) ∧ L ≤ cur.size ∧ L ≤ lo
theorem MRow.at {X : World} {g L k : Nat} (h : MRow X g L) (hk : k < L) : (∃ v, X.cell? ⟨g, k, none⟩ = some v) ∧ X.frozen? ⟨g, k, none⟩ = false := by
  obtain ⟨cur, lo, hi, hg, h1, h2⟩ := h
  refine ⟨⟨cur[k]'(by omega), ?_⟩, ?_⟩
  · rw [cell_of_row X g k cur _ _ hg]; simp
  · simp [World.frozen?, hg]; omega
theorem MRow.set {X : World} {g L k : Nat} (h : MRow X g L) (v : Value) : MRow (X.setCell ⟨g, k, none⟩ v) g L := by
  obtain ⟨cur, lo, hi, hg, h1, h2⟩ := h
  exact ⟨_, lo, hi, Go.Joins.block_setCell (i := k) hg v, by simpa using h1, h2⟩
theorem MRow.same {X Y : World} {g L : Nat} (h : MRow X g L) (e : Y.heap[g]? = X.heap[g]?) : MRow Y g L := by
  obtain ⟨cur, lo, hi, hg, h1, h2⟩ := h
  exact ⟨cur, lo, hi, e.trans hg, h1, h2⟩
theorem strF_size (f : Nat → Int) (n : Nat) : (strF f n).size = n := by rw [strF, strOfNums_size]; simp
theorem bytesWorld_below (w : World) (e : TypeId) (s : ByteArray) : Below w.heap.size w (Lib.bytesWorld w e s) :=
  ⟨by simp [Lib.bytesWorld, World.freeze]; rfl, by simp [Lib.bytesWorld, World.freeze], by simp [Lib.bytesWorld, World.freeze]; rfl, by rw [Lib.bytesWorld_size]; omega, fun k hk => Lib.bytesWorld_at_old w e s k hk⟩
theorem mine_world {w : World} {a : Option Addr} {L : Nat} {f : Nat → Int} (hr : RdB w a L f) :
    ∃ g c W, (convert 9 43 (.string (strF f L))).run Try.prog w = .ok (.slice (some ⟨g, 0, none⟩) L c) W ∧ RdB W (some ⟨g, 0, none⟩) L f ∧ L ≤ c ∧ MRow W g L ∧ w.heap.size ≤ g ∧ g < W.heap.size ∧ Below w.heap.size w W := by
  have hs := strF_size f L
  have e := Lib.run_convert_string_bytes (P := Try.prog) w 9 43 5 (strF f L) Try.underlying9 Try.underlying43 Try.underlying5
  have cs : (Lib.bytesCells w 5 (strF f L)).size = L + (grownCap w L 0 5 - L) := by
    unfold Lib.bytesCells
    have : (strF f L).data.size = L := hs
    simp [this, hs]
  refine ⟨w.heap.size, grownCap w L 0 5, Lib.bytesWorld w 5 (strF f L), by rw [e, hs], ⟨hr.1, ?_⟩, grownCap_ge _ _ _ _, ⟨_, _, _, Lib.bytesWorld_at_new w 5 (strF f L), by omega, by omega⟩, Nat.le_refl _, by rw [Lib.bytesWorld_size]; omega, bytesWorld_below _ _ _⟩
  right
  refine ⟨w.heap.size, 0, rfl, fun i hi => ?_⟩
  have hb := rd_byte hr hi
  refine ⟨?_, hb⟩
  rw [Nat.zero_add, Lib.bytesWorld_cell w 5 (strF f L) i (by omega)]
  have e2 : (strF f L).data.toList = ((List.range L).map f).map fun n => UInt8.ofNat n.toNat := strOfNums_data _
  rw [e2]
  simp [List.getD, hi]
  omega
def okLen (L : Nat) : Prop := ∃ m, 8 ≤ m ∧ m ≤ 1024 ∧ L = m * 1024
theorem from_bad (a : Option Addr) (L cap : Nat) (w : World) (h : ¬ okLen L) (h3 : L ≤ maxLen) : Calls Try.prog 18 #[.slice a L cap] w fun e w' => e = .returned (.tuple #[.pointer none, .int .i64 30]) ∧ Below w.heap.size w w' := by
  by_cases hm : L % 1024 = 0
  · refine from_size a L cap w hm ?_ h3
    by_cases hs : 8 ≤ L / 1024 ∧ L / 1024 ≤ 1024
    · exact absurd ⟨L / 1024, hs.1, hs.2, by omega⟩ h
    · simp [isSizeB]; omega
  · exact from_part a L cap w hm
theorem rfrom_bad (a : Option Addr) (L cap : Nat) (w : World) (h : ¬ okLen L) (h3 : L ≤ maxLen) : Calls Try.prog 19 #[.slice a L cap] w fun e w' => e = .returned (.tuple #[.pointer none, .int .i64 30]) ∧ Below w.heap.size w w' := by
  by_cases hs : 8 ≤ (L : Int) / 1024 ∧ (L : Int) / 1024 ≤ 1024
  · by_cases hm : (L : Int) % 1024 = 0
    · exact absurd ⟨L / 1024, by omega, by omega, by omega⟩ h
    · exact rfrom_part a L cap w h3 hs.1 hs.2 hm
  · exact rfrom_size a L cap w h3 (by omega)
theorem img_of {f : Nat → Int} (i : Nat) : imgF (fun i j => f (i * 1024 + j)) i = f i := by
  unfold imgF
  show f (i / 1024 * 1024 + i % 1024) = f i
  rw [show i / 1024 * 1024 + i % 1024 = i by omega]
/-- Behind the making of the disk, while the row of bytes is written over. -/
structure Tail (w : World) (g L : Nat) (X : World) : Prop where
  row : MRow X g L
  below : Below w.heap.size w X
  g0 : w.heap.size ≤ g
theorem Tail.step {w X : World} {g L k : Nat} (h : Tail w g L X) (v : Value) : Tail w g L (X.setCell ⟨g, k, none⟩ v) := ⟨h.row.set v, h.below.setCell h.g0 v, h.g0⟩
theorem Tail.next {w X Y : World} {g L : Nat} (h : Tail w g L X) (hg : g < X.heap.size) (hb : Below X.heap.size X Y) : Tail w g L Y := ⟨h.row.same (hb.block g hg), h.below.trans (hb.mono h.below.size), h.g0⟩
theorem tail_rep {X : World} {g k d B : Nat} {D : Dk} (hR : Rep X d D) (hf : D.fresh d B) (hg : g < B) (v : Value) : Rep (X.setCell ⟨g, k, none⟩ v) d D :=
  hR.keep (by simp) fun x hx => Below.heap_setCell _ _ _ _ (by have := hf x hx; show x ≠ g; omega)
theorem mrow_lt {X : World} {g L : Nat} (h : MRow X g L) : g < X.heap.size := by
  obtain ⟨cur, lo, hi, hg, _⟩ := h
  rcases Nat.lt_or_ge g X.heap.size with h1 | h1
  · exact h1
  · rw [Array.getElem?_eq_none h1] at hg; cases hg
end Go.Proofs.Ythkpohlgekfnjaa
