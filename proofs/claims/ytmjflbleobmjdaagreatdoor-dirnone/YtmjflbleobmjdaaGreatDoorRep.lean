/-
  How a disk lies in memory; what may turn while it is used.
-/
import Derived.Test.YtmjflbleobmjdaaGreatDoorHold
namespace Go.Proofs.YtmjflbleobmjdaaGreatDoor
open Go.ChangeShapes Go.WideShapes Go.ChangeAt Go.RowKit
attribute [local go_sem ↓] loadSec_seal storeSec_seal eqlSec_seal zeroSec
attribute [local go_sem] loadSec_run storeSec_run rowAt_at rowAt_old rowAt_drew rowAt_drewN roomSec_new roomAt_old roomAt_drew roomAt_drewN putSec_new putRow_past rowSec_put size_put putRow_drew putRow_drewN alloc_drewN setCell_drewN sec_size

set_option linter.unusedVariables false

/-- But for these blocks, and new ones, the world is as it was. -/
structure Tou (M : Nat → Prop) (w w' : World) : Prop where
  os : w'.os = w.os
  tape : w'.tape = w.tape
  output : w'.output = w.output
  size : w.heap.size ≤ w'.heap.size
  block : ∀ k, k < w.heap.size → ¬ M k → w'.heap[k]? = w.heap[k]?
theorem Below.tou {w w' : World} (h : Below w.heap.size w w') (M : Nat → Prop) : Tou M w w' := ⟨h.os, h.tape, h.output, h.size, fun k hk _ => h.block k hk⟩
theorem Tou.refl (M : Nat → Prop) (w : World) : Tou M w w := ⟨rfl, rfl, rfl, Nat.le_refl _, fun _ _ _ => rfl⟩
theorem Tou.trans {M N : Nat → Prop} {a b c : World} (h : Tou M a b) (k : Tou N b c) (hN : ∀ x, x < a.heap.size → N x → M x) : Tou M a c :=
  ⟨k.os.trans h.os, k.tape.trans h.tape, k.output.trans h.output, Nat.le_trans h.size k.size, fun i hi hm => (k.block i (Nat.lt_of_lt_of_le hi h.size) (fun hn => hm (hN i hi hn))).trans (h.block i hi hm)⟩
theorem Tou.below {M : Nat → Prop} {w w' : World} {B : Nat} (h : Tou M w w') (hB : B ≤ w.heap.size) (hM : ∀ x, M x → B ≤ x) : Below B w w' :=
  ⟨h.os, h.tape, h.output, h.size, fun k hk => h.block k (by omega) (fun hm => by have := hM k hm; omega)⟩
theorem rowAt_same {w w' : World} {b : Nat} (h : w'.heap[b]? = w.heap[b]?) : rowAt w' b = rowAt w b := by unfold rowAt; rw [h]
theorem roomAt_same {w w' : World} {b n : Nat} (h : w'.heap[b]? = w.heap[b]?) : roomAt w' b n = roomAt w b n := by unfold roomAt; rw [h]
theorem own_same {w w' : World} {base : Nat} {e : TypeId} {size : Nat} {v : Value} {n : Nat} {xs : List Value} (h : w.ownsRow base e size v n xs) (hb : ∀ x, v.ownBlock = some x → w'.heap[x]? = w.heap[x]?) : w'.ownsRow base e size v n xs := by
  refine ⟨h.1, h.2.imp id fun ⟨g, cap, cur, hv, h1, h2, h3⟩ => ⟨g, cap, cur, hv, h1, ?_, h3⟩⟩
  rw [hb g (by rw [hv]; rfl)]; exact h2
theorem own_base {w : World} {base : Nat} {e : TypeId} {size : Nat} {v : Value} {n : Nat} {xs : List Value} (h : w.ownsRow base e size v n xs) : w.ownsRow 0 e size v n xs :=
  ⟨h.1, h.2.imp id fun ⟨g, cap, cur, a1, _, a3⟩ => ⟨g, cap, cur, a1, Nat.zero_le _, a3⟩⟩
/-- What a row that is owned reads as, cell by cell. -/
theorem own_cell {w : World} {base : Nat} {e : TypeId} {size : Nat} {g n c : Nat} {xs : List Value} (h : w.ownsRow base e size (.slice (some ⟨g, 0, none⟩) n c) n xs) {j : Nat} (hj : j < n * size) : w.cell? ⟨g, j, none⟩ = xs[j]? ∧ w.frozen? ⟨g, j, none⟩ = false := by
  rcases h.2 with ⟨h0, _⟩ | ⟨g', cap, cur, hv, _, hg, _, _, hs, ht⟩
  · simp at h0
  · simp at hv
    obtain ⟨rfl, rfl⟩ := hv
    refine ⟨?_, by simp [World.frozen?, hg]⟩
    rw [cell_of_row w g j cur e (0, 0) hg, ← ht, List.getElem?_take, if_pos hj]; simp

structure Dk where
  n : Nat
  fb : Nat
  fc : Nat
  nb : Nat
  nc : Nat
  q : Nat → Nat
  p : Nat → Nat
  F : Nat → Nat → Int
  S : Nat → Nat → Int
  rv : Value
  m : Nat
  wn : Nat → Nat
  wp : Nat → Nat
  C : Nat → Nat → Int
def Dk.cells (D : Dk) : Array Value := #[.slice (some ⟨D.fb, 0, none⟩) D.n D.fc, .slice (some ⟨D.nb, 0, none⟩) D.n D.nc, D.rv]
def wcells (wn wp : Nat → Nat) : Nat → List Value
  | 0 => []
  | k + 1 => wcells wn wp k ++ [.int .i64 (wn k), .pointer (some ⟨wp k, 0, none⟩)]
def Dk.mut (D : Dk) (b x : Nat) : Prop := x = b ∨ x = D.nb ∨ D.rv.ownBlock = some x
def Dk.fix (D : Dk) (x : Nat) : Prop := x = D.fb ∨ (∃ i, i < D.n ∧ x = D.q i) ∨ (∃ i, i < D.n ∧ x = D.p i) ∨ (∃ k, k < D.m ∧ x = D.wp k)
structure Rep (w : World) (b : Nat) (D : Dk) : Prop where
  n0 : 8 ≤ D.n
  n1 : D.n ≤ 1024
  m1 : D.m ≤ 4096
  blk : rowAt w b = some D.cells
  room : roomAt w b 3 = true
  first : w.ownsRow 0 78 1 (.slice (some ⟨D.fb, 0, none⟩) D.n D.fc) D.n (ptrs D.q D.n)
  now : w.ownsRow 0 78 1 (.slice (some ⟨D.nb, 0, none⟩) D.n D.nc) D.n (ptrs D.p D.n)
  row : w.ownsRow 0 115 2 D.rv D.m (wcells D.wn D.wp D.m)
  secF : ∀ i, i < D.n → rowAt w (D.q i) = some (sec (D.F i)) ∧ ByteF (D.F i)
  secS : ∀ i, i < D.n → rowAt w (D.p i) = some (sec (D.S i)) ∧ ByteF (D.S i)
  secC : ∀ k, k < D.m → rowAt w (D.wp k) = some (sec (D.C k)) ∧ ByteF (D.C k)
  wlt : ∀ k, k < D.m → D.wn k < D.n
  d1 : b ≠ D.nb
  d2 : ∀ x, D.rv.ownBlock = some x → x ≠ b ∧ x ≠ D.nb
  apart : ∀ x, D.mut b x → ¬ D.fix x
  lt : ∀ x, D.mut b x ∨ D.fix x → x < w.heap.size
theorem Rep.keep {w w' : World} {b : Nat} {D : Dk} (h : Rep w b D) (hs : w.heap.size ≤ w'.heap.size) (hw : ∀ x, D.mut b x ∨ D.fix x → w'.heap[x]? = w.heap[x]?) : Rep w' b D where
  n0 := h.n0
  n1 := h.n1
  m1 := h.m1
  blk := (rowAt_same (hw b (.inl (.inl rfl)))).trans h.blk
  room := (roomAt_same (hw b (.inl (.inl rfl)))).trans h.room
  first := own_same h.first fun x hx => hw x (.inr (.inl (Option.some.inj (show some D.fb = some x from hx)).symm))
  now := own_same h.now fun x hx => hw x (.inl (.inr (.inl (Option.some.inj (show some D.nb = some x from hx)).symm)))
  row := own_same h.row fun x hx => hw x (.inl (.inr (.inr hx)))
  secF := fun i hi => ⟨(rowAt_same (hw _ (.inr (.inr (.inl ⟨i, hi, rfl⟩))))).trans (h.secF i hi).1, (h.secF i hi).2⟩
  secS := fun i hi => ⟨(rowAt_same (hw _ (.inr (.inr (.inr (.inl ⟨i, hi, rfl⟩)))))).trans (h.secS i hi).1, (h.secS i hi).2⟩
  secC := fun k hk => ⟨(rowAt_same (hw _ (.inr (.inr (.inr (.inr ⟨k, hk, rfl⟩)))))).trans (h.secC k hk).1, (h.secC k hk).2⟩
  wlt := h.wlt
  d1 := h.d1
  d2 := h.d2
  apart := h.apart
  lt := fun x hx => Nat.lt_of_lt_of_le (h.lt x hx) hs
theorem Rep.below {w w' : World} {b : Nat} {D : Dk} (h : Rep w b D) (hb : Below w.heap.size w w') : Rep w' b D := h.keep hb.size fun x hx => hb.block x (h.lt x hx)
theorem Rep.tou {w w' : World} {b : Nat} {D : Dk} {M : Nat → Prop} (h : Rep w b D) (ht : Tou M w w') (hM : ∀ x, M x → ¬ (D.mut b x ∨ D.fix x)) : Rep w' b D := h.keep ht.size fun x hx => ht.block x (h.lt x hx) fun hm => hM x hm hx
theorem Rep.cell {w : World} {b : Nat} {D : Dk} (h : Rep w b D) (j : Nat) : w.cell? ⟨b, j, none⟩ = D.cells[j]? := rowAt_cell h.blk j
theorem Rep.nowAt {w : World} {b : Nat} {D : Dk} (h : Rep w b D) {i : Nat} (hi : i < D.n) : w.cell? ⟨D.nb, i, none⟩ = some (.pointer (some ⟨D.p i, 0, none⟩)) ∧ w.frozen? ⟨D.nb, i, none⟩ = false := by
  have := own_cell h.now (j := i) (by omega)
  rwa [ptrs_at D.p hi] at this
theorem Rep.firstAt {w : World} {b : Nat} {D : Dk} (h : Rep w b D) {i : Nat} (hi : i < D.n) : w.cell? ⟨D.fb, i, none⟩ = some (.pointer (some ⟨D.q i, 0, none⟩)) := by
  have := (own_cell h.first (j := i) (by omega)).1
  rwa [ptrs_at D.q hi] at this
/-- A disk that was just made. -/
def Dk.made (n fb fc nb nc : Nat) (p : Nat → Nat) (f : Nat → Nat → Int) : Dk := { n := n, fb := fb, fc := fc, nb := nb, nc := nc, q := p, p := p, F := f, S := f, rv := .slice none 0 0, m := 0, wn := fun _ => 0, wp := fun _ => 0, C := fun _ _ => 0 }
theorem made_any (g n cap : Nat) (p : Nat → Nat) (f : Nat → Nat → Int) (w : World) (n0 : 8 ≤ n) (n1 : n ≤ 1024) (ho : w.ownsRow 0 78 1 (.slice (some ⟨g, 0, none⟩) n cap) n (ptrs p n)) (hs : ∀ i, i < n → rowAt w (p i) = some (sec (f i)) ∧ ByteF (f i)) :
    Calls Tryz.prog 35 #[.slice (some ⟨g, 0, none⟩) n cap] w fun e w' => ∃ b h c, e = .returned (.pointer (some ⟨b, 0, none⟩)) ∧ Rep w' b (Dk.made n g cap h c p f) ∧ w.heap.size ≤ b ∧ w.heap.size ≤ h ∧ Below w.heap.size w w' := by
  have hcell : ∀ i, i < n → w.cell? ⟨g, i, none⟩ = some (.pointer (some ⟨p i, 0, none⟩)) := fun i hi => by
    have := (own_cell ho (j := i) (by omega)).1
    rwa [ptrs_at p hi] at this
  have HC : Hid _ := hcell
  have HO : Hid _ := ho
  have HS : Hid _ := hs
  clear ho hs hcell
  go_enter Tryz.func35, Tryz.ntmps35
  go_wp2_with (go_at_call 66; refine (clone_any g n cap p _ (by omega) n1 HC.out).mono ?_; rintro e w1 ⟨h, c, rfl, hown, hh, hlt, hb⟩; have HW : Hid _ := hown; clear hown)
  go_ret
  have gl := World.block_lt_of_cell? _ _ (HC.out 0 (by omega))
  simp only [] at gl
  have pl : ∀ i, i < n → p i < w.heap.size := fun i hi => rowAt_lt (HS.out i hi).1
  have hb' : Below w.heap.size w (w1.alloc (.cells (Dk.made n g cap h c p f).cells 101)) := hb.alloc hb.size _
  have old : ∀ x, x < w.heap.size → (w1.alloc (.cells (Dk.made n g cap h c p f).cells 101)).heap[x]? = w.heap[x]? := hb'.block
  refine ⟨w1.heap.size, h, c, by simp, ?_, hb.size, hh, hb'⟩
  have hne : h ≠ w1.heap.size := by omega
  exact {
    n0 := n0
    n1 := n1
    m1 := by simp [Dk.made]
    blk := rowAt_new _ _ _ _
    room := roomAt_new _ _ _ _ _ rfl rfl
    first := own_same HO.out fun x hx => old x (by have := Option.some.inj (show some g = some x from hx); omega)
    now := own_same HW.out fun x hx => by
      have := Option.some.inj (show some h = some x from hx)
      exact Below.heap_alloc _ _ _ (by omega)
    row := World.ownsRow_nil _ _ _ _
    secF := fun i hi => ⟨(rowAt_same (old _ (pl i hi))).trans (HS.out i hi).1, (HS.out i hi).2⟩
    secS := fun i hi => ⟨(rowAt_same (old _ (pl i hi))).trans (HS.out i hi).1, (HS.out i hi).2⟩
    secC := fun k hk => by simp [Dk.made] at hk
    wlt := fun k hk => by simp [Dk.made] at hk
    d1 := fun e => hne e.symm
    d2 := fun x hx => by simp [Dk.made, Value.ownBlock] at hx
    apart := fun x hx hf => by
      have h1 : w.heap.size ≤ x := by
        rcases hx with rfl | rfl | hx
        · exact hb.size
        · exact hh
        · simp [Dk.made, Value.ownBlock] at hx
      rcases hf with rfl | ⟨i, hi, rfl⟩ | ⟨i, hi, rfl⟩ | ⟨k, hk, _⟩
      · exact absurd gl (Nat.not_lt.2 h1)
      · exact absurd (pl i hi) (Nat.not_lt.2 h1)
      · exact absurd (pl i hi) (Nat.not_lt.2 h1)
      · simp [Dk.made] at hk
    lt := fun x hx => by
      have se : ∀ o : Obj, (w1.alloc o).heap.size = w1.heap.size + 1 := fun o => by simp
      rw [se]
      have := hb.size
      rcases hx with (rfl | rfl | hx) | (rfl | ⟨i, hi, rfl⟩ | ⟨i, hi, rfl⟩ | ⟨k, hk, _⟩)
      · omega
      · exact Nat.lt_succ_of_lt hlt
      · simp [Dk.made, Value.ownBlock] at hx
      · exact Nat.lt_succ_of_lt (Nat.lt_of_lt_of_le gl hb.size)
      · exact Nat.lt_succ_of_lt (Nat.lt_of_lt_of_le (pl i hi) hb.size)
      · exact Nat.lt_succ_of_lt (Nat.lt_of_lt_of_le (pl i hi) hb.size)
      · simp [Dk.made] at hk }
end Go.Proofs.YtmjflbleobmjdaaGreatDoor
