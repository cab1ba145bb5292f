/-
  Layer 17: readFile: one more file is noted, while a directory is read.
-/
import Derived.Test.YtmjflbleobmjdaaGreatDoorClm
namespace Go.Proofs.YtmjflbleobmjdaaGreatDoor
set_option linter.unusedVariables false
set_option linter.unusedSimpArgs false
open Go.ChangeShapes Go.WideShapes Go.ChangeAt Go.RowKit
attribute [local go_sem ↓] loadSec_seal storeSec_seal eqlSec_seal zeroSec
attribute [local go_sem] loadSec_run storeSec_run rowAt_at rowAt_old rowAt_drew rowAt_drewN roomSec_new roomAt_old roomAt_drew roomAt_drewN putSec_new putRow_past rowSec_put size_put putRow_drew putRow_drewN alloc_drewN setCell_drewN sec_size

set_option linter.unusedVariables false

/-- What readFile leaves. -/
def RfP (B0 n1 x d : Nat) (D : Dk) (lv : Value) (ls : List Int) (r : Option (List Fi × (Nat → Nat))) (e : Ending) (Y : World) : Prop := match r with
  | some q => ∃ L' fv' rv', e = .returned (.bool true) ∧ L'.map Fm.f = q.1 ∧ RdX B0 n1 x d D lv ls L' q.2 fv' rv' Y
  | none => e = .returned (.bool false)
/-- A row of files, its last name. -/
theorem OwF.lastAt {X : World} {B : Nat} {fv : Value} {L : List Fm} {last : Fm} (h : OwF X B fv L) (hl : L.getLast? = some last) : ∃ g c, fv = .slice (some ⟨g, 0, none⟩) L.length c ∧ X.cell? ⟨g, (L.length - 1) * 4, none⟩ = some (.string last.f.nm) ∧ 0 < L.length ∧ L.length ≤ c ∧ c ≤ maxLen := by
  have h0 : 0 < L.length := by
    cases L with
    | nil => cases hl
    | cons => simp
  rcases h.cases with ⟨_, rfl⟩ | ⟨g, c, cur, rfl, hb, hg, h1, h2, h3, h4⟩
  · cases hl
  · refine ⟨g, c, rfl, ?_, h0, h1, h2⟩
    rw [cell_of_row X g _ cur _ (0, 0) hg]
    have := filesC_at L (L.length - 1) 0 (by omega) (by decide)
    rw [← h4, List.getElem?_take, if_pos (by omega), Nat.add_zero] at this
    rw [List.getLast?_eq_getElem?, List.getElem?_eq_getElem (by omega)] at hl
    have hlast := Option.some.inj hl
    rw [hlast] at this
    simpa [Fm.cs] using this
set_option maxHeartbeats 8000000 in
theorem readFile_full {B0 n1 x d : Nat} {D : Dk} {lv fv rv : Value} {ls : List Int} {L : List Fm} {u : Nat → Nat} {X : World} (h : RdX B0 n1 x d D lv ls L u fv rv X) (e : En) (hL : L.length = 200) :
    Calls Tryz.prog 57 #[.pointer (some ⟨x, 0, none⟩), e.val] X fun r Y => r = .returned (.bool false) ∧ Below X.heap.size X Y := by
  obtain ⟨_, c1, _⟩ := h.cell
  have hx : x < X.heap.size := Nat.lt_of_lt_of_le h.xn h.big
  have ho := h.fs.cases
  rcases ho with ⟨_, rfl⟩ | ⟨g, c, cur, rfl, _⟩
  · cases hL
  · have d1 : ((L.length : Int) == 200) = true := by simp; omega
    clear h
    unfold En.val
    go_enter Tryz.func57, Tryz.ntmps57
    go_wp2
    go_quiet (fail)
    go_wp2
    go_ret
    exact ⟨rfl, bdrewN (by go_grown) _⟩
set_option maxHeartbeats 8000000 in
theorem readFile_low {B0 n1 x d : Nat} {D : Dk} {lv fv rv : Value} {ls : List Int} {L : List Fm} {u : Nat → Nat} {X : World} (h : RdX B0 n1 x d D lv ls L u fv rv X) (e : En) (hL : L.length < 200) (last : Fm) (hl : L.getLast? = some last) (hb : lessS last.f.nm e.nm = false) :
    Calls Tryz.prog 57 #[.pointer (some ⟨x, 0, none⟩), e.val] X fun r Y => r = .returned (.bool false) ∧ Below X.heap.size X Y := by
  obtain ⟨_, c1, _⟩ := h.cell
  have hx : x < X.heap.size := Nat.lt_of_lt_of_le h.xn h.big
  obtain ⟨g, c, rfl, hc, h0, h1, h2⟩ := h.fs.lastAt hl
  have hg := World.block_lt_of_cell? _ _ hc
  simp only [] at hg
  have d1 : ((L.length : Int) == 200) = false := by simp; omega
  have d2 : decide ((L.length : Int) > 0) = true := decide_eq_true (by omega)
  have d3 : decide (0 < (L.length : Int)) = true := decide_eq_true (by omega)
  have e1 : ((L.length : Int) - 1).toNat = L.length - 1 := by omega
  have i0 : (0 : Int) ≤ (L.length : Int) - 1 := by omega
  have i1 : (L.length : Int) - 1 < (L.length : Int) := by omega
  unfold lessS at hb
  clear h hl
  unfold En.val
  go_enter Tryz.func57, Tryz.ntmps57
  go_wp2
  go_quiet (fail)
  go_wp2
  go_ret
  exact ⟨rfl, bdrewN (by go_grown) _⟩
/-- May it stand behind those that are noted? -/
def Behind (L : List Fm) (e : En) : Prop := L = [] ∨ ∃ last, L.getLast? = some last ∧ lessS last.f.nm e.nm = true
/-- What stands behind the header's reading: a box with the file. -/
def P4 (X : World) (e : En) (r : Option (List Int)) (s6 s7 : Value) (Y : World) : Prop := match r with
  | some secs => s7 = .bool true ∧ ∃ gb a n c, s6 = .pointer (some ⟨gb, 0, none⟩) ∧ Y.heap[gb]? = some (.cells #[.string e.nm, .int .i64 e.hd, .int .i64 e.ln, .slice a n c] 54 (0, 0)) ∧ X.heap.size ≤ gb ∧ OwI Y X.heap.size (.slice a n c) secs ∧ Below X.heap.size X Y
  | none => s7 = .bool false ∧ Below X.heap.size X Y
theorem dl_a {X w1 : World} {o1 : Obj} {q : Nat} (hb : Below ((X.alloc o1).drewN q).heap.size ((X.alloc o1).drewN q) w1) : Below X.heap.size X w1 :=
  (bdrewN ((Below.refl _ X).alloc (Nat.le_refl _) o1) q).trans (hb.mono (by simp))
theorem dl_b {X w1 : World} {o1 o2 : Obj} {q : Nat} (hb : Below (((X.alloc o1).alloc o2).drewN q).heap.size (((X.alloc o1).alloc o2).drewN q) w1) : Below X.heap.size X w1 :=
  (bdrewN (((Below.refl _ X).alloc (Nat.le_refl _) o1).alloc (by simp) o2) q).trans (hb.mono (by simp; omega))
theorem p4_before {X w1 : World} {e : En} {a : Option Addr} {n c q : Nat} {secs : List Int} {o1 : Obj} {cs : Array Value} (hb : Below (((X.alloc o1).alloc (.cells cs 54)).drewN q).heap.size (((X.alloc o1).alloc (.cells cs 54)).drewN q) w1) (hc : cs.size = 4) (ho : OwI w1 (((X.alloc o1).alloc (.cells cs 54)).drewN q).heap.size (.slice a n c) secs) :
    P4 X e (some secs) (.pointer (some ⟨X.heap.size + 1, 0, none⟩)) (.bool true) ((((w1.setCell ⟨X.heap.size + 1, 0, none⟩ (.string e.nm)).setCell ⟨X.heap.size + 1, 1, none⟩ (.int .i64 e.hd)).setCell ⟨X.heap.size + 1, 2, none⟩ (.int .i64 e.ln)).setCell ⟨X.heap.size + 1, 3, none⟩ (.slice a n c)) := by
  have z : (((X.alloc o1).alloc (.cells cs 54)).drewN q).heap.size = X.heap.size + 2 := by simp
  refine ⟨rfl, X.heap.size + 1, a, n, c, rfl, ?_, by omega, own_four (ho.base (by omega)) (fun x hx => by have := (ho.lt x hx).1; omega) _ _ _ _, below_four (dl_b hb) (by omega) _ _ _ _⟩
  have h00 : ((X.alloc o1).alloc (.cells cs 54)).heap[X.heap.size + 1]? = some (.cells cs 54 (0, 0)) := by
    have := heap_alloc_last (X.alloc o1) (.cells cs 54)
    rwa [show (X.alloc o1).heap.size = X.heap.size + 1 by simp] at this
  have h0 : w1.heap[X.heap.size + 1]? = some (.cells cs 54 (0, 0)) := (hb.block _ (by omega)).trans h00
  have h1 := Go.Joins.block_setCell (i := 3) (Go.Joins.block_setCell (i := 2) (Go.Joins.block_setCell (i := 1) (Go.Joins.block_setCell (i := 0) h0 (.string e.nm)) (.int .i64 e.hd)) (.int .i64 e.ln)) (.slice a n c)
  rw [h1]
  congr 2
  obtain ⟨l⟩ := cs
  rcases l with _ | ⟨x0, _ | ⟨x1, _ | ⟨x2, _ | ⟨x3, _ | ⟨x4, r⟩⟩⟩⟩⟩ <;> simp at hc
  rfl
theorem p4_behind {X w1 : World} {e : En} {a : Option Addr} {n c : Nat} {secs : List Int} (hb : Below X.heap.size X w1) (ho : OwI w1 X.heap.size (.slice a n c) secs) :
    P4 X e (some secs) (.pointer (some ⟨w1.heap.size, 0, none⟩)) (.bool true) (w1.alloc (.cells #[.string e.nm, .int .i64 e.hd, .int .i64 e.ln, .slice a n c] 54)) :=
  ⟨rfl, w1.heap.size, a, n, c, rfl, heap_alloc_last w1 _, hb.size, ho.same fun x hx => Below.heap_alloc _ _ _ (ho.lt x hx).2, hb.trans (((Below.refl _ w1).alloc (Nat.le_refl _) _).mono hb.size)⟩
theorem OwF.isSl {w : World} {B : Nat} {v : Value} {L : List Fm} (h : OwF w B v L) : ∃ a c, v = .slice a L.length c := by
  rcases h.cases with ⟨rfl, rfl⟩ | ⟨g, c, _, rfl, _⟩
  · exact ⟨_, _, rfl⟩
  · exact ⟨_, _, rfl⟩
set_option maxHeartbeats 8000000 in
theorem readFile_head {B0 n1 x d : Nat} {D : Dk} {lv fv rv : Value} {ls : List Int} {L : List Fm} {u : Nat → Nat} {X : World} (h : RdX B0 n1 x d D lv ls L u fv rv X) (hR : Rep X d D) (e : En) (hL : L.length < 200) (hbe : Behind L e) (hh : headP D.n D.S e.hd e.ln = none) :
    Calls Tryz.prog 57 #[.pointer (some ⟨x, 0, none⟩), e.val] X fun r Y => r = .returned (.bool false) ∧ Below X.heap.size X Y := by
  obtain ⟨c0, c1, _⟩ := h.cell
  have hx : x < X.heap.size := Nat.lt_of_lt_of_le h.xn h.big
  have HH := hidD (fun Y (hY : Below X.heap.size X Y) => readHeader_any d D e.nm e.hd e.ln Y (hR.below hY))
  rw [hh] at HH
  have d1 : ((L.length : Int) == 200) = false := by simp; omega
  obtain ⟨fa, fc, rfl⟩ := h.fs.isSl
  have HF := hidD h.fs
  have HBE := hidD hbe
  unfold En.val
  clear h hR hh hbe
  go_enter Tryz.func57, Tryz.ntmps57
  go_upto_region 2 with fail
  go_cut [33] from 13 to 33 (fun s33 Y => s33 = .bool false ∧ ∃ nq, Y = (X.alloc (.cells #[.string e.nm, .int .i64 e.hd, .int .i64 e.ln] 25)).drewN nq)
  case first =>
    rcases HBE.out with rfl | ⟨last, hl, hb⟩
    · go_quiet (fail)
      go_wp2_with fail
      go_meet
      exact ⟨rfl, _, rfl⟩
    · obtain ⟨g, c, he, hc, h0, h1, h2⟩ := HF.out.lastAt hl
      injection he with e0 e1 e2
      subst e0 e2
      have hg := World.block_lt_of_cell? _ _ hc
      simp only [] at hg
      have d2 : decide ((L.length : Int) > 0) = true := decide_eq_true (by omega)
      have d3 : decide (0 < (L.length : Int)) = true := decide_eq_true (by omega)
      have e1 : ((L.length : Int) - 1).toNat = L.length - 1 := by omega
      have i0 : (0 : Int) ≤ (L.length : Int) - 1 := by omega
      have i1 : (L.length : Int) - 1 < (L.length : Int) := by omega
      unfold lessS at hb
      go_quiet (fail)
      go_wp2_with fail
      go_meet
      exact ⟨rfl, _, rfl⟩
  case rest =>
    obtain ⟨rfl, nq, rfl⟩ := hcut
    go_upto_region 4 with fail
    go_cut [7] from 34 to 42 (fun s7 Y => s7 = .bool false ∧ Below X.heap.size X Y)
    case first =>
      go_region_with (go_at_call 20; refine (HH.out _ (by refine bdrewN ?_ _; go_grown)).mono ?_; rintro r w1 ⟨he, hb⟩; obtain rfl := (show r = _ from he); have HB := hidD hb; obtain ⟨hc, hf⟩ := bcell hb; clear hb he)
      all_goals
        go_wp2_with fail
        go_meet
        first
          | exact ⟨rfl, (dl_a HB.out).alloc (dl_a HB.out).size _⟩
          | exact ⟨rfl, below_four (dl_b HB.out) (by omega) _ _ _ _⟩
    case rest =>
      obtain ⟨rfl, hb⟩ := hcut
      go_wp2_with fail
      go_ret
      exact ⟨rfl, hb⟩
end Go.Proofs.YtmjflbleobmjdaaGreatDoor
