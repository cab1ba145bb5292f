/-
  Rows of bytes that a call itself made; rows of bytes as strings.
-/
import Derived.Test.YtmjflbleobmjdaaGreatDoorWriteW
import Derived.Laws.BytesArg
namespace Go.Proofs.YtmjflbleobmjdaaGreatDoor
open Go.ChangeShapes Go.WideShapes Go.ChangeAt Go.RowKit
attribute [local go_sem ↓] loadSec_seal storeSec_seal eqlSec_seal zeroSec
attribute [local go_sem] loadSec_run storeSec_run rowAt_at rowAt_old rowAt_drew rowAt_drewN roomSec_new roomAt_old roomAt_drew roomAt_drewN putSec_new putRow_past rowSec_put size_put putRow_drew putRow_drewN alloc_drewN setCell_drewN sec_size

set_option linter.unusedVariables false

structure BRow (w : World) (g n : Nat) (f : Nat → Int) : Prop where
  row : ∃ cur : Array Value, w.heap[g]? = some (.cells cur 5 (0, 0)) ∧ cur.size = n ∧ ∀ i, i < n → cur[i]? = some (.int .u8 (f i))
theorem BRow.at {w : World} {g n k : Nat} {f : Nat → Int} (h : BRow w g n f) (hk : k < n) : w.cell? ⟨g, k, none⟩ = some (.int .u8 (f k)) ∧ w.frozen? ⟨g, k, none⟩ = false := by
  obtain ⟨cur, hg, hs, hc⟩ := h.row
  refine ⟨?_, by simp [World.frozen?, hg]⟩
  rw [cell_of_row w g k cur _ (0, 0) hg, hc k hk]
theorem BRow.lt {w : World} {g n : Nat} {f : Nat → Int} (h : BRow w g n f) : g < w.heap.size := by
  obtain ⟨cur, hg, _⟩ := h.row
  rcases Nat.lt_or_ge g w.heap.size with h1 | h1
  · exact h1
  · rw [Array.getElem?_eq_none h1] at hg; cases hg
theorem BRow.same {w w' : World} {g n : Nat} {f : Nat → Int} (h : BRow w g n f) (hw : w'.heap[g]? = w.heap[g]?) : BRow w' g n f := by
  obtain ⟨cur, hg, hc⟩ := h.row
  exact ⟨cur, hw.trans hg, hc⟩
theorem BRow.set {w : World} {g n k : Nat} {f : Nat → Int} (h : BRow w g n f) (hk : k < n) (v : Int) : BRow (w.setCell ⟨g, k, none⟩ (.int .u8 v)) g n (upd f k v) := by
  obtain ⟨cur, hg, hs, hc⟩ := h.row
  refine ⟨cur.setIfInBounds k (.int .u8 v), Go.Joins.block_setCell (i := k) hg _, by simpa using hs, fun i hi => ?_⟩
  by_cases e : i = k
  · subst e; rw [upd_at]; simp [hs, hk]
  · rw [upd_ne _ _ e, Array.getElem?_setIfInBounds_ne (Ne.symm e)]; exact hc i hi
theorem BRow.ext {w : World} {g n : Nat} {f h : Nat → Int} (hr : BRow w g n f) (e : ∀ i, i < n → f i = h i) : BRow w g n h := by
  obtain ⟨cur, hg, hs, hc⟩ := hr.row
  exact ⟨cur, hg, hs, fun i hi => by rw [hc i hi, e i hi]⟩
theorem BRow.rd {w : World} {g n : Nat} {f : Nat → Int} (h : BRow w g n f) (hn : n ≤ maxLen) (hf : ∀ i, i < n → 0 ≤ f i ∧ f i ≤ 255) : RdB w (some ⟨g, 0, none⟩) n f :=
  ⟨hn, .inr ⟨g, 0, rfl, fun i hi => ⟨by rw [Nat.zero_add]; exact (h.at hi).1, hf i hi⟩⟩⟩
theorem BRow.made {w : World} {base g n : Nat} (h : w.ownsRow base 5 1 (.slice (some ⟨g, 0, none⟩) n n) n (madeCells (Value.int .u8 0).cells (n * 1)).toList) : BRow w g n (fun _ => 0) := by
  rcases h.2 with ⟨h0, _⟩ | ⟨g', cap, cur, hv, _, hg, _, _, hs, ht⟩
  · simp at h0
  · simp at hv
    obtain ⟨rfl, rfl⟩ := hv
    have e : cur = (List.replicate n (.int .u8 0)).toArray := by
      rw [List.take_of_length_le (by simp; omega)] at ht
      apply Array.ext'
      rw [ht, Nat.mul_one]
      simpa [Value.cells] using toList_madeCells_one (.int .u8 0) n
    exact ⟨cur, hg, by omega, fun i hi => by rw [e]; simp [hi]⟩
theorem sec_rd {w : World} {g : Nat} {f : Nat → Int} (h : rowAt w g = some (sec f)) (hf : ByteF f) : RdB w (some ⟨g, 0, none⟩) 1024 f :=
  ⟨by decide, .inr ⟨g, 0, rfl, fun i hi => ⟨by rw [Nat.zero_add, rowAt_cell h, sec_at f hi], hf i hi⟩⟩⟩
/-- So many bytes as a string. -/
def strF (f : Nat → Int) (n : Nat) : ByteArray := strOfNums ((List.range n).map f)
theorem strF_ext {f g : Nat → Int} {n : Nat} (h : ∀ i, i < n → f i = g i) : strF f n = strF g n := by
  unfold strF; congr 1
  exact List.map_congr_left fun i hi => h i (List.mem_range.1 hi)
theorem conv_str {w : World} {a : Option Addr} {len : Nat} {f : Nat → Int} (cap : Nat) (h : RdB w a len f) : (convert 71 9 (.slice a len cap)).run Tryz.prog w = .ok (.string (strF f len)) w := by
  rcases h.2 with rfl | ⟨b, off, rfl, hc⟩
  · rw [run_convert_bytes_string w _ 9 5 a 0 cap Tryz.underlying71 Tryz.underlying5 Tryz.underlying9]
    cases a <;> simp [Conv.bytesToString, loadCells]
    all_goals rfl
  · exact run_convert_bytes_arg (P := Tryz.prog) w 71 5 Tryz.underlying71 Tryz.underlying5 b off len cap ((List.range len).map f) (by simp) (fun i hi => by rw [(hc i hi).1]; simp [List.getD, hi]) 9 Tryz.underlying9
end Go.Proofs.YtmjflbleobmjdaaGreatDoor
