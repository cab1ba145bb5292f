/-
  What the law on runs in pieces meets.
  A run in pieces: what the loop holds.
-/
import Derived.Test.YteegkhnikcioiaaGreatDoorMCutsV
import Derived.Test.YteegkhnikcioiaaGreatDoorMOpenB
namespace Go.Proofs.YteegkhnikcioiaaGreatDoor
open Go.ChangeShapes Go.WideShapes Go.ChangeAt Go.RowKit
open Cpu (Cp In Ac En decOk decI accA rightB)
set_option linter.unusedVariables false

/-- A row of numbers of 64 bits. -/
def RdJ (w : World) (a : Option Addr) (len : Nat) (f : Nat → Int) : Prop :=
  len ≤ maxLen ∧ (len = 0 ∨ ∃ b off, a = some ⟨b, off, none⟩ ∧ ∀ i, i < len → w.cell? ⟨b, off + i, none⟩ = some (.int .i64 (f i)) ∧ i64B (f i))
theorem RdJ.at {w X : World} {a : Option Addr} {len : Nat} {f : Nat → Int} (h : RdJ w a len f) (hb : Below w.heap.size w X) {k : Nat} (hk : k < len) : ∃ b off, a = some ⟨b, off, none⟩ ∧ X.cell? ⟨b, off + k, none⟩ = some (.int .i64 (f k)) ∧ i64B (f k) := by
  rcases h.2 with h0 | ⟨b, off, ha, hc⟩
  · omega
  · have := hc k hk
    exact ⟨b, off, ha, (hb.cell (World.block_lt_of_cell? _ _ this.1)).trans this.1, this.2⟩
theorem rdj_of_row {w : World} {x : Addr} {len cap : Nat} {zs : List Int} (hl : len ≤ cap) (hm : cap ≤ maxLen) (hz : zs.length = cap) (hcell : ∀ i, i < zs.length → w.cell? (x.add i) = some (.int .i64 (zs.getD i 0))) (hwz : ∀ n ∈ zs, (Lit.int .i64 n).wf = true) :
    RdJ w (some x) len (fun i => zs.getD i 0) := by
  refine ⟨Nat.le_trans hl hm, ?_⟩
  by_cases h0 : len = 0
  · exact .inl h0
  · right
    obtain ⟨b, off, spot⟩ := x
    have hc := hcell 0 (by omega)
    have hspot : spot = none := by simpa [Addr.add] using World.cell?_spot hc
    subst hspot
    refine ⟨b, off, rfl, fun i hi => ?_⟩
    have h1 := hcell i (by omega)
    have h2 : zs.getD i 0 ∈ zs := by
      rw [List.getD_eq_getElem?_getD, List.getElem?_eq_getElem (show i < zs.length by omega)]
      exact List.getElem_mem _
    refine ⟨?_, wfI (hwz _ h2)⟩
    by_cases hi0 : i = 0
    · subst hi0; simpa [Addr.add] using h1
    · simpa [Addr.add, hi0] using h1
set_option maxRecDepth 100000 in
theorem open_longs {H : Type} {enc : TypeId × Value → H} {W : World} {base : Nat} {r : Reach} {b0 : Nat} {v : Value} {d : DataW H} {p : List MemPlace} (hv : Value.okWide Tryz.prog W r b0 38 v) (h : DataW.Trod enc Tryz.prog W base (fun _ => true) true 38 v d p) :
    ∃ a len cap f, v = .slice a len cap ∧ RdJ W a len f := by
  obtain ⟨a0, len0, cap0, rfl⟩ := okWide_slice Tryz.underlying38 hv
  obtain ⟨fuel, hf⟩ := h
  rcases open_ints Tryz.underlying38 Tryz.underlying2 (by kernel_rfl) hf with ⟨hcs, _⟩ | ⟨x, l, c, zs, hcs, _, hl, hm, hz, _, hcell, hwz⟩
  · simp [Value.cells] at hcs
    obtain ⟨rfl, rfl, rfl⟩ := hcs
    exact ⟨none, 0, 0, fun _ => 0, rfl, by decide, .inl rfl⟩
  · simp [Value.cells] at hcs
    obtain ⟨rfl, rfl, rfl⟩ := hcs
    exact ⟨_, _, _, _, rfl, rdj_of_row hl hm (by simpa using hz) hcell hwz⟩
/-- How far the pieces came. -/
structure Piece (m0 m : Ms) (all : Int) : Prop where
  run : (m0.run all.toNat).2 = m
  st : m.st = all
  all : 0 ≤ all ∧ all ≤ 3000
def pieceK (v all : Int) : Int := min (max v 0) (3000 - all)
theorem pieceK_bd (v all : Int) (h : 0 ≤ all ∧ all < 3000) : 0 ≤ pieceK v all ∧ pieceK v all ≤ 3000 - all := by unfold pieceK; omega
/-- One piece more. -/
theorem Piece.next {m0 m : Ms} {all k : Int} (h : Piece m0 m all) (h0 : m0.st = 0) (hc : m0.cut < 0) (hb : (m0.run all.toNat).1.k = 1) (hk : 0 ≤ k) (hk2 : k ≤ 3000 - all) :
    Piece m0 (m.run k.toNat).2 (m.run k.toNat).2.st ∧ ((m.run k.toNat).1.k = 1 → (m0.run (m.run k.toNat).2.st.toNat).1.k = 1 ∧ (m.run k.toNat).2.st = all + k) := by
  have e : m0.run (all.toNat + k.toNat) = m.run k.toNat := by rw [run_add _ _ _ hc hb, h.run]
  have R := run_ends k.toNat m
  have S := run_self (all.toNat + k.toNat) m0 hc
  rw [e, h0, Int.sub_zero] at S
  have s1 := R.s.1
  have s2 := R.s.2
  have a := h.all
  rw [h.st] at s1 s2
  refine ⟨⟨S, rfl, by omega⟩, fun h1 => ?_⟩
  have b := R.b h1
  rw [h.st] at b
  have e2 : (m.run k.toNat).2.st.toNat = all.toNat + k.toNat := by omega
  refine ⟨?_, by omega⟩
  rw [e2, e]; exact h1
theorem piece_run {X : World} {p b : Nat} {P : Ph} {m : Ms} {all k : Int} (h : Mac X p b P m) (hs : m.st = all) (ha : 0 ≤ all ∧ all ≤ 3000) (hk : 0 ≤ k) (hk2 : k ≤ 3000) : Calls Tryz.prog 15 #[.pointer (some ⟨p, 0, none⟩), .int .i64 k] X fun e Y => e = .returned (.agg ({ (m.run k.toNat).1 with s := (m.run k.toNat).2.st - all } : En).cells) ∧ ∃ P', MStp X p b P Y P' (m.run k.toNat).2 :=
  (run_any h k ⟨by omega, by omega⟩ (by omega)).mono fun e Y ⟨he, P', hS⟩ => by
    have e1 : steps k = k.toNat := by unfold steps; omega
    rw [e1] at he hS
    unfold Ms.tells at he
    rw [hs] at he
    exact ⟨he, P', hS⟩
end Go.Proofs.YteegkhnikcioiaaGreatDoor

namespace Go.Proofs.YteegkhnikcioiaaGreatDoor
open Go.ChangeShapes Go.WideShapes Go.ChangeAt Go.RowKit
open Cpu (Cp In Ac En decOk decI accA rightB)
attribute [local go_sem ↓] Cpu.loadCpu_seal Cpu.storeCpu_seal Cpu.loadIn_seal Cpu.storeIn_seal Cpu.loadAc_seal Cpu.storeAc_seal Cpu.loadEn_seal Cpu.storeEn_seal
attribute [local go_sem] Cpu.loadCpu_run Cpu.storeCpu_run Cpu.loadIn_run Cpu.storeIn_run Cpu.rowAt_at Cpu.rowAt_past Cpu.rowAt_drew Cpu.rowAt_drewN Cpu.roomCpu_new Cpu.roomIn_new Cpu.roomAt_old Cpu.roomAt_drew Cpu.roomAt_drewN Cpu.putCpu_new Cpu.putIn_new Cpu.Cp.zero_fold Cpu.In.fold Cpu.putRow_past Cpu.rowCpu_put Cpu.rowIn_put Cpu.size_put Cpu.putRow_drew Cpu.putRow_drewN Cpu.alloc_drewN Cpu.setCell_drewN Cpu.Cp.at16 Cpu.Cp.at17 Cpu.Cp.at18 Cpu.Cp.at19 Cpu.Cp.at20 Cpu.Cp.at21 Cpu.Cp.size Cpu.Cp.set16 Cpu.Cp.set17 Cpu.Cp.set18 Cpu.Cp.set19 Cpu.Cp.set20 Cpu.Cp.set21 Cpu.In.at0 Cpu.In.at1 Cpu.In.at2 Cpu.In.at3 Cpu.In.at4 Cpu.In.at5 Cpu.In.at6 Cpu.In.at7 Cpu.In.size Cpu.In.set0 Cpu.In.set1 Cpu.In.set2 Cpu.In.set3 Cpu.In.ne Cpu.Cp.ne Cpu.In.set4 Cpu.In.set5 Cpu.In.set6 Cpu.In.set7 loadMid_run storeMid_run mc_size mc_cpu Cpu.loadAc_run Cpu.storeAc_run Cpu.loadEn_run Cpu.storeEn_run Cpu.putAc_new Cpu.putEn_new Cpu.roomAc_new Cpu.roomEn_new Cpu.rowAc_put Cpu.rowEn_put Cpu.Ac.at0 Cpu.Ac.at1 Cpu.Ac.at2 Cpu.Ac.size Cpu.Ac.ne Cpu.Ac.fold Cpu.En.at0 Cpu.En.at1 Cpu.En.at2 Cpu.En.at3 Cpu.En.size Cpu.En.set0 Cpu.En.set1 Cpu.En.set2 Cpu.En.set3 Cpu.Ac.set0 Cpu.Ac.set1 Cpu.Ac.set2 Cpu.En.ne Cpu.En.fold
set_option linter.unusedVariables false

theorem MDuo.lay {w X : World} {p b q c g : Nat} {P Q : Ph} {m n : Ms} {Y : Array Value} (h : MDuo w X p b P m q c Q n) (hk : Kept X p b P q c Q g Y) (hg : w.heap.size ≤ g) (hz : 0 < g) (Z : Array Value) : MDuo w (Cpu.putRow X g Z) p b P m q c Q n := by
  have hb : Below w.heap.size w (Cpu.putRow X g Z) := Cpu.below_put h.one.below g hg Z
  refine ⟨⟨?_, hb, h.one.new⟩, ⟨?_, hb, h.two.new⟩, h.ap⟩
  · exact h.one.mac.keep (by rw [Cpu.size_put]; exact Nat.le_refl _) fun x hx hm => heap_put X g x (fun e => hm.elim (fun hm => hk.n1 (e ▸ hm)) fun h0 => absurd hz (by omega)) Z
  · exact h.two.mac.keep (by rw [Cpu.size_put]; exact Nat.le_refl _) fun x hx hm => heap_put X g x (fun e => hm.elim (fun hm => hk.n2 (e ▸ hm)) fun h0 => absurd hz (by omega)) Z
structure PL (w X : World) (p b q c : Nat) (Q : Ph) (m0 : Ms) (g : Nat) (all : Int) (P : Ph) (m : Ms) (E : En) : Prop where
  duo : MDuo w X p b P m q c Q m0
  pc : Piece m0 m all
  kept : Kept X p b P q c Q g E.cells
  room : Cpu.roomAt X g 4 = true
  gw : w.heap.size ≤ g
  gz : 0 < g
theorem PL.step {w X Y : World} {p b q c : Nat} {Q : Ph} {m0 : Ms} {g : Nat} {all all' : Int} {P P' : Ph} {m m' : Ms} {E : En} (h : PL w X p b q c Q m0 g all P m E) (hs : MStp X p b P Y P' m') (hp : Piece m0 m' all') : PL w Y p b q c Q m0 g all' P' m' E :=
  ⟨h.duo.fst hs, hp, h.kept.fst hs, (roomAt_same (hs.tou.block g h.kept.lt h.kept.n1)).trans h.room, h.gw, h.gz⟩
theorem PL.lay {w X : World} {p b q c : Nat} {Q : Ph} {m0 : Ms} {g : Nat} {all : Int} {P : Ph} {m : Ms} {E : En} (h : PL w X p b q c Q m0 g all P m E) (F : En) : PL w (Cpu.putRow X g F.cells) p b q c Q m0 g all P m F :=
  ⟨h.duo.lay h.kept h.gw h.gz _, h.pc, ⟨Cpu.rowEn_put X g F h.room, by rw [Cpu.size_put]; exact h.kept.lt, h.kept.n1, h.kept.n2⟩, by
    obtain ⟨t, hY, hsz⟩ := room_blk (X := E.cells) h.kept.row h.room
    have b6 := setCells_heap F.cells.toList 0 X _ hY
    show roomAt _ _ _ = _
    rw [Cpu.putRow_eq]
    unfold roomAt
    rw [b6]
    simp [putList_size, hsz], h.gw, h.gz⟩
theorem PL.next {w X Y : World} {p b q c : Nat} {Q : Ph} {m0 : Ms} {g : Nat} {all : Int} {P : Ph} {m : Ms} {E : En} (h : PL w X p b q c Q m0 g all P m E) (hb : Below X.heap.size X Y) : PL w Y p b q c Q m0 g all P m E :=
  ⟨h.duo.next hb, h.pc, h.kept.next hb, (roomAt_same (hb.block g h.kept.lt)).trans h.room, h.gw, h.gz⟩
theorem PL.begin {w X : World} {p b q c : Nat} {P Q : Ph} {m0 : Ms} (h : MDuo w X p b P m0 q c Q m0) (h0 : m0.st = 0) (hc : m0.cut < 0) (E : En) (t : TypeId) (hz : 0 < w.heap.size) : PL w (X.alloc (.cells E.cells t)) p b q c Q m0 X.heap.size 0 P m0 E :=
  ⟨h.next (al _), ⟨by show (m0.run 0).2 = m0; simp [Ms.run, gone_never hc], h0, by omega⟩, Kept.new h _ _, Cpu.roomAt_new _ _ _ _ _ rfl rfl, h.one.below.size, Nat.lt_of_lt_of_le hz h.one.below.size⟩
theorem begin_k {m0 : Ms} (hc : m0.cut < 0) : (m0.run (0 : Int).toNat).1.k = 1 := by
  show (m0.run 0).1.k = 1
  simp [Ms.run, gone_never hc, enAt]
/-- A machine that has put that out, and did so many steps. -/
def OutAt (X : World) (p : Nat) (o : ByteArray) (n : Int) : Prop := ∃ b P m, Mac X p b P m ∧ strO m.L.O = o ∧ m.st = n
theorem OutAt.below {X Y : World} {p : Nat} {o : ByteArray} {n : Int} (h : OutAt X p o n) (hb : Below X.heap.size X Y) : OutAt Y p o n := by
  obtain ⟨b, P, m, h1, h2⟩ := h
  exact ⟨b, P, m, h1.below hb, h2⟩
theorem Mac.outAt {w : World} {p b : Nat} {P : Ph} {m : Ms} (h : Mac w p b P m) : OutAt w p (strO m.L.O) m.st := ⟨b, P, m, h, rfl, rfl⟩
theorem outAt_any {X : World} {p : Nat} {o : ByteArray} {n : Int} (h : OutAt X p o n) : Calls Tryz.prog 17 #[.pointer (some ⟨p, 0, none⟩)] X fun e Y => e = .returned (.string o) ∧ Y = X := by
  obtain ⟨b, P, m, h1, rfl, rfl⟩ := h
  exact mout_any h1
theorem stAt_any {X : World} {p : Nat} {o : ByteArray} {n : Int} (h : OutAt X p o n) : Calls Tryz.prog 18 #[.pointer (some ⟨p, 0, none⟩)] X fun e Y => e = .returned (.int .i64 n) ∧ Y = X := by
  obtain ⟨b, P, m, h1, rfl, rfl⟩ := h
  exact msteps_any h1
/-- What one piece does. -/
structure Went (m0 : Ms) (all kk : Int) (E : En) : Prop where
  bd : 0 ≤ all + E.s ∧ all + E.s ≤ 3000 ∧ 0 ≤ E.s ∧ E.s ≤ 3000
  k : E.k = 1 → (m0.run (all + E.s).toNat).1.k = 1 ∧ E.s = kk
theorem PL.go {w X : World} {p b q c : Nat} {Q : Ph} {m0 : Ms} {g : Nat} {all kk : Int} {P : Ph} {m : Ms} {E : En} (h : PL w X p b q c Q m0 g all P m E) (h0 : m0.st = 0) (hc : m0.cut < 0) (hb : (m0.run all.toNat).1.k = 1) (hk : 0 ≤ kk) (hk2 : kk ≤ 3000 - all) : Calls Tryz.prog 15 #[.pointer (some ⟨p, 0, none⟩), .int .i64 kk] X fun e Y => ∃ E' : En, ∃ P' m', e = .returned (.agg E'.cells) ∧ PL w Y p b q c Q m0 g (all + E'.s) P' m' E ∧ Went m0 all kk E' := by
  have N := h.pc.next h0 hc hb hk hk2
  have a := h.pc.all
  refine (piece_run h.duo.one.mac h.pc.st a hk (by omega)).mono ?_
  rintro e Y ⟨he, P', hS⟩
  have R := run_ends kk.toNat m
  have s1 := R.s.1
  have s2 := R.s.2
  rw [h.pc.st] at s1 s2
  have es : all + ((m.run kk.toNat).2.st - all) = (m.run kk.toNat).2.st := by omega
  refine ⟨_, P', _, he, h.step hS ?_, ⟨?_, fun h1 => ?_⟩⟩
  · show Piece m0 _ (all + ((m.run kk.toNat).2.st - all))
    rw [es]; exact N.1
  · show 0 ≤ all + ((m.run kk.toNat).2.st - all) ∧ all + ((m.run kk.toNat).2.st - all) ≤ 3000 ∧ 0 ≤ (m.run kk.toNat).2.st - all ∧ (m.run kk.toNat).2.st - all ≤ 3000
    omega
  · have N2 := N.2 h1
    show (m0.run (all + ((m.run kk.toNat).2.st - all)).toNat).1.k = 1 ∧ (m.run kk.toNat).2.st - all = kk
    rw [es]
    exact ⟨N2.1, by omega⟩
/-- The other machine, run at once. -/
theorem PL.whole {w X : World} {p b q c : Nat} {Q : Ph} {m0 : Ms} {g : Nat} {all : Int} {P : Ph} {m : Ms} {E : En} (h : PL w X p b q c Q m0 g all P m E) (h0 : m0.st = 0) : Calls Tryz.prog 15 #[.pointer (some ⟨q, 0, none⟩), .int .i64 all] X fun e Y => ∃ E' : En, ∃ Q', e = .returned (.agg E'.cells) ∧ E'.s = all ∧ MDuo w Y p b P m q c Q' m ∧ Kept Y p b P q c Q' g E.cells ∧ m.st = all := by
  have a := h.pc.all
  refine (piece_run (all := 0) h.duo.two.mac h0 ⟨by omega, by omega⟩ a.1 a.2).mono ?_
  rintro e Y ⟨he, Q', hS⟩
  rw [h.pc.run] at hS he
  exact ⟨_, Q', he, by show m.st - 0 = all; rw [h.pc.st]; omega, h.duo.snd hS, h.kept.snd hS, h.pc.st⟩
end Go.Proofs.YteegkhnikcioiaaGreatDoor
