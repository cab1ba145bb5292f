/-
  The walk of a write.
-/
import Derived.Test.YtmjflbleobmjdaaGreatDoorWrite
namespace Go.Proofs.YtmjflbleobmjdaaGreatDoor
open Go.ChangeShapes Go.WideShapes Go.ChangeAt Go.RowKit
attribute [local go_sem ↓] loadSec_seal storeSec_seal eqlSec_seal zeroSec
attribute [local go_sem] loadSec_run storeSec_run rowAt_at rowAt_old rowAt_drew rowAt_drewN roomSec_new roomAt_old roomAt_drew roomAt_drewN putSec_new putRow_past rowSec_put size_put putRow_drew putRow_drewN alloc_drewN setCell_drewN sec_size

set_option linter.unusedVariables false

theorem write_nil (n : Int) (v : Value) (w : World) : Calls Tryz.prog 31 #[.pointer none, .int .i64 n, v] w fun e w' => e = .returned (.int .i64 1) ∧ Below w.heap.size w w' := by
  go_enter Tryz.func31, Tryz.ntmps31
  go_wp2
  go_ret
  exact ⟨rfl, by go_grown⟩
theorem Rep.rowV {w : World} {b : Nat} {D : Dk} (h : Rep w b D) : ∃ ra rcap, D.rv = .slice ra D.m rcap := by
  rcases h.row.2 with ⟨e, e0⟩ | ⟨g, cap, _, e, _⟩
  · exact ⟨none, 0, by rw [e, e0]⟩
  · exact ⟨_, _, e⟩
theorem Rep.parts {w : World} {b : Nat} {D : Dk} (h : Rep w b D) {ra : Option Addr} {rcap : Nat} (hv : D.rv = .slice ra D.m rcap) {X : World} (hX : Below w.heap.size w X) : X.cell? ⟨b, 1, none⟩ = some (.slice (some ⟨D.nb, 0, none⟩) D.n D.nc) ∧ X.cell? ⟨b, 2, none⟩ = some (.slice ra D.m rcap) :=
  ⟨((h.below hX).cell 1).trans D.at1, by rw [← hv]; exact ((h.below hX).cell 2).trans D.at2⟩
theorem write_bad (b : Nat) (D : Dk) (n : Int) (a : Option Addr) (len cap : Nat) (w : World) (h : Rep w b D) (hE : ¬ firstE n D.n len D.m = 0) : Calls Tryz.prog 31 #[.pointer (some ⟨b, 0, none⟩), .int .i64 n, .slice a len cap] w fun e w' => e = .returned (.int .i64 (firstE n D.n len D.m)) ∧ Below w.heap.size w w' := by
  obtain ⟨ra, rcap, hv⟩ := h.rowV
  have HC : Hid (∀ X, Below w.heap.size w X → _ ∧ _) := fun X hX => h.parts hv hX
  have hmf : ∀ (fn : Fn) (first cap : Array Value) (w : World), (Instr.makeFunc fn first cap).run Tryz.prog w = .ok (.func fn first cap) w := fun _ _ _ _ => rfl
  clear h hv
  go_enter Tryz.func31, Tryz.ntmps31
  go_wp2_with (go_at_call 58; refine (first_any _ b n a len cap _ _ _ _ _ _ _ (by simp [askV]) (by simp [askV]) (by simp [askV]) (HC.out _ (by go_grown)).1 (HC.out _ (by go_grown)).2).mono ?_; rintro e w1 ⟨rfl, hb⟩)
  go_ret
  exact ⟨rfl, Below.trans (by go_grown) (hb.mono (by simp; omega))⟩
theorem info67 : (Tryz.prog.info? 115).map (fun i => (i.zero, i.size, i.bytes)) = some (some (.agg #[.int .i64 0, .pointer none]), 2, 16) := by kernel_rfl
theorem pair_src (w : World) (x y : Value) (t : TypeId) (k : Nat) (hk : k = w.heap.size) : ∀ j u, [x, y][j]? = some u → (w.alloc (.cells #[x, y] t)).cell? ((⟨k, 0, none⟩ : Addr).add j) = some u := by
  intro j u hj
  subst hk
  rw [add_lit0]
  have hl := (List.getElem?_eq_some_iff.1 hj).1
  simp at hl
  have : j = 0 ∨ j = 1 := by omega
  rcases this with rfl | rfl <;> (simp at hj; subst hj; simp)
theorem RdB.below {w w' : World} {a : Option Addr} {len : Nat} {f : Nat → Int} (h : RdB w a len f) (hb : Below w.heap.size w w') : RdB w' a len f := by
  refine ⟨h.1, h.2.imp id fun ⟨b, off, ha, hc⟩ => ⟨b, off, ha, fun i hi => ⟨?_, (hc i hi).2⟩⟩⟩
  have := World.block_lt_of_cell? _ _ (hc i hi).1
  exact (hb.cell (p := ⟨b, off + i, none⟩) this).trans (hc i hi).1
theorem RdB.bytes {w : World} {a : Option Addr} {f : Nat → Int} (h : RdB w a 1024 f) : ByteF f := by
  rcases h.2 with h | ⟨b, off, _, hc⟩
  · omega
  · exact fun i hi => (hc i hi).2
/-- What the walk reads behind the sector's store. -/
theorem mid_cells {w : World} {b : Nat} {D : Dk} (h : Rep w b D) (n : Nat) (v : Value) {ra : Option Addr} {rcap : Nat} (hv : D.rv = .slice ra D.m rcap) : (w.setCell ⟨D.nb, n, none⟩ v).cell? ⟨b, 2, none⟩ = some (.slice ra D.m rcap) := by
  rw [World.cell?_of_block (w := w) (Below.heap_setCell _ _ _ _ h.d1), ← hv]
  exact (h.cell 2).trans D.at2
theorem mid_own {w : World} {b : Nat} {D : Dk} (h : Rep w b D) (n : Nat) (v : Value) {ra : Option Addr} {rcap : Nat} (hv : D.rv = .slice ra D.m rcap) (o : Obj) : ((w.setCell ⟨D.nb, n, none⟩ v).alloc o).ownsRow 0 115 2 (.slice ra D.m rcap) D.m (wcells D.wn D.wp D.m) := by
  rw [← hv]
  refine own_same h.row fun x hx => ?_
  rw [Below.heap_alloc _ _ _ (by simpa using h.lt x (.inl (.inr (.inr hx)))), Below.heap_setCell _ _ _ _ (h.d2 x hx).2]
theorem last_cells {w w5 : World} {b : Nat} {D : Dk} {vs : Obj} (h : Rep w b D) (n : Nat) (v : Value) {ra : Option Addr} {rcap : Nat} (hv : D.rv = .slice ra D.m rcap) (hg : ((w.setCell ⟨D.nb, n, none⟩ v).alloc vs).grownBy w5 (Value.slice ra D.m rcap).ownBlock) :
    (∃ u, w5.cell? ⟨b, 2, none⟩ = some u) ∧ w5.frozen? ⟨b, 2, none⟩ = false := by
  have hb0 : b < w.heap.size := h.lt b (.inl (.inl rfl))
  have e : w5.heap[b]? = w.heap[b]? := by
    rw [hg.block b (by simp; omega) (fun e => (h.d2 b (by rw [hv]; exact e.symm)).1 rfl), Below.heap_alloc _ _ _ (by simpa using hb0), Below.heap_setCell _ _ _ _ h.d1]
  refine ⟨⟨D.rv, ?_⟩, ?_⟩
  · rw [World.cell?_of_block (w := w) e]; exact (h.cell 2).trans D.at2
  · rw [World.frozen?_of_block (w := w) e]
    have := (room_there h.room 2 (by omega)).2
    simpa using this
set_option maxHeartbeats 2000000 in
theorem write_good (b : Nat) (D : Dk) (n : Nat) (a : Option Addr) (cap : Nat) (f : Nat → Int) (w : World) (h : Rep w b D) (hn : n < D.n) (hm : D.m < 4096) (hf : RdB w a 1024 f) : Calls Tryz.prog 31 #[.pointer (some ⟨b, 0, none⟩), .int .i64 n, .slice a 1024 cap] w fun e w' => ∃ P g c, e = .returned (.int .i64 0) ∧ Rep w' b (D.wrote n P f g c) ∧ Tou (D.mut b) w w' ∧ (∀ x, (D.wrote n P f g c).mut b x → D.mut b x ∨ w.heap.size ≤ x) ∧ (∀ x, (D.wrote n P f g c).fix x → D.fix x ∨ w.heap.size ≤ x) := by
  obtain ⟨ra, rcap, hv⟩ := h.rowV
  obtain ⟨i0, hi, hz0, hz1, hz2⟩ := info_parts info67
  have HC : Hid (∀ X, Below w.heap.size w X → _ ∧ _) := fun X hX => h.parts hv hX
  have HR : Hid (Rep w b D) := h
  have HV : Hid (D.rv = .slice ra D.m rcap) := hv
  have HF : Hid (RdB w a 1024 f) := hf
  have hE : firstE n D.n 1024 D.m = 0 := by
    have e1 : placeE n D.n = 0 := by simp [placeE]; omega
    have e2 : wearE D.m = 0 := by simp [wearE]; omega
    simp [firstE, e1, e2, dataE]
  have j0 : (0 : Int) ≤ (n : Int) := by omega
  have j1 : (n : Int) < (D.n : Int) := by omega
  have hmf : ∀ (fn : Fn) (first cap : Array Value) (w : World), (Instr.makeFunc fn first cap).run Tryz.prog w = .ok (.func fn first cap) w := fun _ _ _ _ => rfl
  clear h hv hf
  go_enter Tryz.func31, Tryz.ntmps31
  go_wp2_with (first
    | (go_at_call 58; refine (first_any _ b n a 1024 cap _ _ _ _ _ _ _ (by simp [askV]) (by simp [askV]) (by simp [askV]) (HC.out _ (by go_grown)).1 (HC.out _ (by go_grown)).2).mono ?_; rintro e w1 ⟨rfl, hb⟩; have hb1 : Below w.heap.size w w1 := Below.trans (by go_grown) (hb.mono (by simp; omega)); have R1 := HR.out.below hb1; have c1 := (HC.out _ hb1).1; have c2 := (R1.nowAt hn).1; have HB1 : Hid _ := hb1; have HR1 : Hid _ := R1; clear hb hb1 R1)
    | (go_at_call 62; refine (holding_any a cap f (D.S n) (D.p n) _ (HF.out.below HB1.out) (HR1.out.secS n hn).1 (HR1.out.secS n hn).2).mono ?_; rintro e w2 ⟨P, rfl, hP1, hP2, hP3, hb2⟩; have HB2 : Hid (Below w.heap.size w w2) := HB1.out.trans (hb2.mono HB1.out.size); have R2 := HR1.out.below hb2; have d1 := (R2.cell 1).trans D.at1; have d2 := R2.nowAt hn; obtain ⟨d2, d3⟩ := d2; have d4 : ∀ v, (w2.setCell ⟨D.nb, n, none⟩ v).cell? ⟨b, 2, none⟩ = some (.slice ra D.m rcap) := fun v => mid_cells R2 n v HV.out; have HR2 : Hid _ := R2; have HP : Hid (rowAt w2 P = some (sec f) ∧ (P = D.p n ∨ P = w1.heap.size) ∧ P < w2.heap.size) := ⟨hP1, hP2, hP3⟩; clear R2 hP1 hP2 hP3 hb2 c1 c2)
    | (at_builtin; refine wpList_append_lies _ rfl _ _ 99 rfl 0 115 i0 (.agg #[.int .i64 0, .pointer none]) 2 16 Tryz.underlying99 hi hz0 hz1 hz2 rfl (by decide) _ D.m (wcells D.wn D.wp D.m) rfl (mid_own HR2.out n _ HV.out _) ⟨w2.heap.size, 0, none⟩ 1 1 [.int .i64 n, .pointer (some ⟨P, 0, none⟩)] rfl rfl (pair_src _ _ _ _ _ (by simp)) (by simp [Value.oneCell']) (by omega) (by unfold maxLen; omega) (by omega) (Nat.zero_le _) _ rfl ?_; intro g c w5 hown hgrow hat hlt; obtain ⟨⟨u5, hc5⟩, hf5⟩ := last_cells HR2.out n _ HV.out hgrow; have HA : Hid _ := And.intro hown (And.intro hgrow hat); clear hown hgrow hat d1 d2 d3 d4))
  go_ret
  obtain ⟨hown, hgrow, hat⟩ := HA.out
  have R2 := HR2.out
  have sz := HB2.out.size
  have sz1 := HB1.out.size
  have hPm : ¬ D.mut b P := by
    rcases HP.out.2.1 with e | e
    · rw [e]; exact fun hm => HR.out.apart _ hm (.inr (.inr (.inl ⟨n, hn, rfl⟩)))
    · intro hm
      have := HR.out.lt P (.inl hm)
      omega
  have key := rep_write R2 hn hm HP.out.1 HF.out.bytes hPm hown (by rw [HV.out]; exact hgrow) (by
    rw [HV.out]
    rcases hat with e | e
    · exact .inl e
    · right; simpa using e)
  refine ⟨P, g, c, rfl, key.1, (Below.tou HB2.out _).trans key.2.1 (fun x _ hx => hx), fun x hx => (key.2.2.1 x hx).imp id (fun h => by omega), fun x hx => ?_⟩
  rcases key.2.2.2 x hx with h1 | rfl
  · exact .inl h1
  · rcases HP.out.2.1 with e | e
    · exact .inl (.inr (.inr (.inl ⟨n, hn, e⟩)))
    · right; omega
end Go.Proofs.YtmjflbleobmjdaaGreatDoor
