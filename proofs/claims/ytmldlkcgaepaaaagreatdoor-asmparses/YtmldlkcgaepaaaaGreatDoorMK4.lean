/-
  Layer 6's filled, the program's: an instruction with all its operands, over the maps of names.
-/
import Derived.Test.YtmldlkcgaepaaaaGreatDoorMK3
import Derived.Test.YtmldlkcgaepaaaaGreatDoorMSh3
namespace Go.Proofs.YtmldlkcgaepaaaaGreatDoor
set_option linter.unusedVariables false
set_option linter.unusedSimpArgs false
open Go.ChangeShapes Go.WideShapes Go.ChangeAt Go.RowKit
attribute [local go_sem ↓] loadIn_seal storeIn_seal
attribute [local go_sem] loadIn_run storeIn_run rowAt_at rowAt_old rowAt_drew rowAt_drewN roomCpu_new roomIn_new roomAt_old roomAt_drew roomAt_drewN putCpu_new putIn_new Cp.zero_fold In.fold putRow_past rowCpu_put rowIn_put size_put putRow_drew putRow_drewN alloc_drewN setCell_drewN Cp.at16 Cp.at17 Cp.at18 Cp.at19 Cp.at20 Cp.at21 Cp.size Cp.set16 Cp.set17 Cp.set18 Cp.set19 Cp.set20 Cp.set21 In.at0 In.at1 In.at2 In.at3 In.at4 In.at5 In.at6 In.at7 In.size In.set0 In.set1 In.set2 In.set3 In.ne Cp.ne In.set4 In.set5 In.set6 In.set7

def filledV (i : In) (l : List Bs) (a : Int) : In := (filledP i l a).getD zeroIn
theorem kinds_in (i : In) : ∀ c ∈ kindsP i, c ∈ kindsAll := by
  unfold kindsP lastP; repeat' split
  all_goals decide
theorem fill_step (a : Int) (i : In) (ks : Bs) (l : List Bs) (p : Nat) (h1 : p < ks.length) (h2 : p < l.length) : fillP a i (ks.drop p) (l.drop p) = (withP i ks[p] l[p] a).bind fun i' => fillP a i' (ks.drop (p + 1)) (l.drop (p + 1)) := by
  rw [List.drop_eq_getElem_cons h1, List.drop_eq_getElem_cons h2]; rfl
theorem row4 (w : World) (b0 b1 b2 b3 b : Nat) (h : rowAt w b = some #[.map (some b0), .map (some b1), .map (some b2), .map (some b3)]) : w.cell? ⟨b, 0, none⟩ = some (.map (some b0)) ∧ w.cell? ⟨b, 1, none⟩ = some (.map (some b1)) ∧ w.cell? ⟨b, 2, none⟩ = some (.map (some b2)) ∧ w.cell? ⟨b, 3, none⟩ = some (.map (some b3)) :=
  ⟨rowAt_cell h 0, rowAt_cell h 1, rowAt_cell h 2, rowAt_cell h 3⟩
theorem setCells_far (b b' : Nat) (hb : b' ≠ b) : ∀ (vs : List Value) (k : Nat) (w : World), (w.setCells b k vs).heap[b']? = w.heap[b']?
  | [], _, _ => rfl
  | v :: r, k, w => by rw [World.setCells, setCells_far b b' hb r]; exact Below.heap_setCell _ _ _ _ hb
theorem put_far (w : World) (b b' : Nat) (X : Array Value) (hb : b' ≠ b) : (putRow w b X).heap[b']? = w.heap[b']? := by rw [putRow_eq]; exact setCells_far b b' hb _ _ _
theorem room_far (w : World) (b b' n : Nat) (X : Array Value) (hb : b' ≠ b) : roomAt (putRow w b X) b' n = roomAt w b' n := by unfold roomAt; rw [put_far _ _ _ _ hb]
theorem row_far (w : World) (b b' : Nat) (X : Array Value) (hb : b' ≠ b) : rowAt (putRow w b X) b' = rowAt w b' := by unfold rowAt; rw [put_far _ _ _ _ hb]
theorem room_put {w : World} {b n : Nat} (X : Array Value) (h : roomAt w b n = true) : roomAt (putRow w b X) b n = true := by
  unfold roomAt at h
  split at h
  case h_2 => cases h
  rename_i Y t fr hb
  have := setCells_heap X.toList 0 w Y hb
  unfold roomAt
  rw [putRow_eq, this]
  simpa [putList_size] using h
theorem filled_no (i : In) (n : Nat) (a : Int) (hn : n ≤ 1000001) (hne : n ≠ (kindsP i).length) (v : Option Addr) (cap : Nat) {b0 b1 b2 b3 : Nat} (w : World) :
    Calls Tryz.prog 24 #[.agg #[.map (some b0), .map (some b1), .map (some b2), .map (some b3)], .agg i.cells, .slice v n cap, .int .u32 a] w fun e w' => e = .returned (.tuple #[.agg zeroIn.cells, .bool false]) ∧ Below w.heap.size w w' := by
  have hs := bs_size (kindsP i)
  have hd : ((n : Int) != ((bs (kindsP i)).size : Int)) = true := by rw [hs]; simp; omega
  have KN := kinds_any i
  clear hs hne
  generalize bs (kindsP i) = ks at hd KN
  go_enter Tryz.func24, Tryz.ntmps24
  go_wp2_with (go_at_call 35; refine (KN _).mono ?_; rintro e w1 ⟨rfl, hb⟩; have p2 : roomAt w1 (w.heap.size + 2) 8 = true := (roomAt_below hb _ _ (by simp)).trans (roomIn_new _ _ _ _ (by simp)))
  refine ret_cell_tmp rfl rfl (loadIn_row (c := zeroIn) (rowIn_put _ _ _ p2)) rfl ⟨rfl, below_put ?_ _ (by omega) _⟩
  have B0 : Below w.heap.size w (((w.alloc (.cells #[.map (some b0), .map (some b1), .map (some b2), .map (some b3)] 34)).alloc (.cells i.cells 52)).alloc (.cells zeroIn.cells 52)) := by go_grown
  exact B0.trans (hb.mono (by simp; omega))
set_option maxRecDepth 20000 in
set_option maxHeartbeats 1000000 in
theorem filled_yes (i : In) (l : List Bs) (a : Int) (hl : ∀ x ∈ l, x.length ≤ 1000000) (hn : l.length = (kindsP i).length) (g cap : Nat) (hcap : l.length ≤ cap) {b0 b1 b2 b3 : Nat} (w : World) (K : Known w b0 b1 b2 b3) (V : Vars w) (hg : g < w.heap.size) (hcell : ∀ j (h : j < l.length), w.cell? ⟨g, j, none⟩ = some (.string (bs l[j]))) :
    Calls Tryz.prog 24 #[.agg #[.map (some b0), .map (some b1), .map (some b2), .map (some b3)], .agg i.cells, .slice (some ⟨g, 0, none⟩) l.length cap, .int .u32 a] w fun e w' => e = .returned (.tuple #[.agg (filledV i l a).cells, .bool (filledP i l a).isSome]) ∧ Below w.heap.size w w' := by
  have hf : filledP i l a = fillP a i (kindsP i) l := by simp [filledP, hn]
  unfold filledV
  rw [hf]
  clear hf
  have KB := kinds_bd i
  have HA := kinds_ascii i
  have HL := bs_size (kindsP i)
  have hchs : ∀ pos (h1 : pos < (bs (kindsP i)).size) (h2 : pos < (kindsP i).length), ((bs (kindsP i))[pos]'h1) = (kindsP i)[pos] := fun pos h1 h2 => bs_at _ _ _ _
  have KN := kinds_any i
  have KI := kinds_in i
  obtain ⟨kk, hkk⟩ : ∃ kk, kk = kindsP i := ⟨_, rfl⟩
  rw [← hkk] at KB HA HL hchs KN KI hn ⊢
  generalize bs kk = ks at HA HL hchs KN
  obtain ⟨R, hR⟩ : ∃ R, R = fillP a i kk l := ⟨_, rfl⟩
  rw [← hR]
  have HR : Hid (R = fillP a i kk l) := hR
  have HK : Hid (Known w b0 b1 b2 b3) := K
  have HV : Hid (Vars w) := V
  have HC : Hid (∀ j (h : j < l.length), w.cell? ⟨g, j, none⟩ = some (.string (bs l[j]))) := hcell
  have hd : ((l.length : Int) != (ks.size : Int)) = false := by rw [HL, hn]; simp
  obtain ⟨n, hnn⟩ : ∃ n, n = l.length := ⟨_, rfl⟩
  rw [← hnn] at hcap hn hd ⊢
  clear hkk hR K V hcell
  go_enter Tryz.func24, Tryz.ntmps24
  go_wp2_with (go_at_call 35; refine (KN _).mono ?_; rintro e w2 ⟨rfl, hb⟩)
  have B0 : Below w.heap.size w (((w.alloc (.cells #[.map (some b0), .map (some b1), .map (some b2), .map (some b3)] 34)).alloc (.cells i.cells 52)).alloc (.cells zeroIn.cells 52)) := by go_grown
  have hb2 : Below w.heap.size w w2 := B0.trans (hb.mono (by simp; omega))
  have hs2 := hb.size
  simp at hs2
  have r0 : rowAt w2 w.heap.size = some #[.map (some b0), .map (some b1), .map (some b2), .map (some b3)] := (rowAt_below hb _ (by simp; omega)).trans ((rowAt_old _ _ _ (by simp; omega)).trans ((rowAt_old _ _ _ (by simp)).trans (rowAt_new _ _ _ _)))
  have r1 : rowAt w2 (w.heap.size + 1) = some i.cells := (rowAt_below hb _ (by simp)).trans (by simp [go_sem])
  have p1 : roomAt w2 (w.heap.size + 1) 8 = true := (roomAt_below hb _ _ (by simp)).trans (by simp [go_sem])
  have p2 : roomAt w2 (w.heap.size + 2) 8 = true := (roomAt_below hb _ _ (by simp)).trans (roomIn_new _ _ _ _ (by simp))
  clear hb KN B0
  go_loopg [] 3 (fun gf wx => ∃ (pos : Nat) (j : In), pos ≤ ks.size ∧ ks.size ≤ pos + gf ∧ wx.heap[w2.heap.size]? = some (.stringIter ks pos) ∧ Below w.heap.size w wx ∧ w2.heap.size < wx.heap.size ∧ rowAt wx w.heap.size = some #[.map (some b0), .map (some b1), .map (some b2), .map (some b3)] ∧ rowAt wx (w.heap.size + 1) = some j.cells ∧ roomAt wx (w.heap.size + 1) 8 = true ∧ roomAt wx (w.heap.size + 2) 8 = true ∧ fillP a j (kk.drop pos) (l.drop pos) = R)
  case atStart =>
    refine ⟨0, i, Nat.zero_le _, by omega, World.iter_heap w2 ks 0, hb2.alloc hb2.size _, by simp [World.iter], ?_, ?_, ?_, ?_, HR.out.symm⟩
    · exact (rowAt_old _ _ _ (by omega)).trans r0
    · exact (rowAt_old _ _ _ (by omega)).trans r1
    · exact (roomAt_old _ _ _ _ (by omega)).trans p1
    · exact (roomAt_old _ _ _ _ (by omega)).trans p2
  case round =>
    obtain ⟨pos, j, hp1, hp2, hit, hbw, hlt2, q0, q1, m1, m2, hfin⟩ := hrel
    clear r0 r1 p1 p2 hb2
    by_cases hlt : pos < ks.size
    · obtain ⟨g', rfl⟩ : ∃ g', gk = g' + 1 := ⟨gk - 1, by omega⟩
      have hk : pos < kk.length := by omega
      have hj : pos < l.length := by omega
      have hch := hchs pos hlt hk
      have ha := HA pos hlt
      have hnx : ∀ ty, (Instr.next (.pointer (some ⟨w2.heap.size, 0, none⟩)) true ty).run Tryz.prog wr = _ := fun ty => Lib.run_next_ascii_at wr w2.heap.size ks pos ty hit hlt ha
      have hit2 := Lib.iterAt_heap wr w2.heap.size ks pos (pos + 1) hit
      have hbw2 := Lib.below_iterAt hbw (k := w2.heap.size) (by omega) ks (pos + 1)
      have hsz2 := Lib.iterAt_size wr w2.heap.size ks (pos + 1)
      have hbs2 := hbw2.size
      have ho := fun x (hx : x ≠ w2.heap.size) => Lib.iterAt_other wr w2.heap.size x ks (pos + 1) hx
      obtain ⟨W, hWd⟩ : ∃ W, wr.iterAt w2.heap.size ks (pos + 1) = W := ⟨_, rfl⟩
      rw [hWd] at hnx hit2 hbw2 hsz2 hbs2
      simp only [hWd] at ho
      rw [hch] at hnx
      have k0 : rowAt W w.heap.size = some #[.map (some b0), .map (some b1), .map (some b2), .map (some b3)] := by unfold rowAt at q0 ⊢; rw [ho _ (by omega)]; exact q0
      have k1 : rowAt W (w.heap.size + 1) = some j.cells := by unfold rowAt at q1 ⊢; rw [ho _ (by omega)]; exact q1
      have n1 : roomAt W (w.heap.size + 1) 8 = true := by unfold roomAt at m1 ⊢; rw [ho _ (by omega)]; exact m1
      have n2 : roomAt W (w.heap.size + 2) 8 = true := by unfold roomAt at m2 ⊢; rw [ho _ (by omega)]; exact m2
      have hop : W.cell? ⟨g, pos, none⟩ = some (.string (bs l[pos])) := (hbw2.cell (p := ⟨g, _, none⟩) hg).trans (HC.out pos hj)
      obtain ⟨c0, c1, c2, c3⟩ := row4 _ _ _ _ _ _ k0
      have hst := fill_step a j kk l pos hk hj
      rw [hst] at hfin
      have hkin := KI kk[pos] (List.getElem_mem hk)
      have hlz := hl l[pos] (List.getElem_mem hj)
      generalize kk[pos] = c at hnx hfin hkin
      generalize l[pos] = t at hop hfin hlz
      have WT := @with_any j c hkin (bs t) a (by rw [bs_size]; exact hlz) b0 b1 b2 b3
      rw [bs_data] at WT
      have WH : Hid (Calls Tryz.prog 47 #[.agg #[.map (some b0), .map (some b1), .map (some b2), .map (some b3)], .agg j.cells, .int .i32 c.toNat, .string (bs t), .int .u32 a] W.drew fun e w' => e = .returned (.tuple #[.agg (withV j c t a).cells, .bool (withP j c t a).isSome]) ∧ Below W.drew.heap.size W.drew w') := WT W.drew ((HK.out.call' hbw2).drew) ((HV.out.below hbw2 HV.out.big).drew)
      have i0 : decide ((pos : Int) < 0) = false := by simp
      clear hit hbw hWd HA hch ha hchs q0 q1 m1 m2 hst WT ho HC
      cases hw : withP j c t a with
      | none =>
        rw [hw] at WH hfin
        go_wp2
        go_region_with (go_at_call 47; refine WH.out.mono ?_; rintro e w3 ⟨rfl, hb3⟩; have p3 : roomAt w3 (w.heap.size + 1) 8 = true := (roomAt_below hb3 _ _ (by show _ < W.heap.size; omega)).trans n1; have p4 : roomAt w3 (w.heap.size + 2) 8 = true := (roomAt_below hb3 _ _ (by show _ < W.heap.size; omega)).trans n2; have p5 := (room_far w3 (w.heap.size + 1) (w.heap.size + 2) 8 (withV j c t a).cells (by omega)).trans p4)
        all_goals go_wp2
        all_goals
          refine ret_cell_tmp rfl rfl (loadIn_row (c := zeroIn) (rowIn_put _ _ _ p5)) rfl ⟨?_, below_put (below_put (hbw2.drew.trans (hb3.mono (by show _ ≤ W.heap.size; omega))) _ (by omega) _) _ (by omega) _⟩
          rw [← hfin]
          rfl
      | some j' =>
        have hv := withP_some hw
        rw [hw, hv] at WH
        rw [hw] at hfin
        go_wp2
        go_region_with (go_at_call 47; refine WH.out.mono ?_; rintro e w3 ⟨rfl, hb3⟩; have p3 : roomAt w3 (w.heap.size + 1) 8 = true := (roomAt_below hb3 _ _ (by show _ < W.heap.size; omega)).trans n1; have p4 : roomAt w3 (w.heap.size + 2) 8 = true := (roomAt_below hb3 _ _ (by show _ < W.heap.size; omega)).trans n2; have p5 := (room_far w3 (w.heap.size + 1) (w.heap.size + 2) 8 j'.cells (by omega)).trans p4; have p6 := room_put j'.cells p3; have p7 := rowIn_put w3 (w.heap.size + 1) j' p3; have p8 : rowAt (putRow w3 (w.heap.size + 1) j'.cells) w.heap.size = some #[.map (some b0), .map (some b1), .map (some b2), .map (some b3)] := (row_far _ _ _ _ (by omega)).trans ((rowAt_below hb3 _ (by show _ < W.heap.size; omega)).trans k0); have p9 : (putRow w3 (w.heap.size + 1) j'.cells).heap[w2.heap.size]? = some (.stringIter ks (pos + 1)) := (put_far _ _ _ _ (by omega)).trans ((hb3.block _ (by show _ < W.heap.size; omega)).trans hit2); have q9 := hb3.size; have q8 := size_put w3 (w.heap.size + 1) j'.cells)
        all_goals go_wp2
        all_goals go_roundg g'
        all_goals first | exact ⟨pos + 1, j', by omega, by omega, p9, below_put (hbw2.drew.trans (hb3.mono (by show _ ≤ W.heap.size; omega))) _ (by omega) _, by rw [q8]; have : W.heap.size ≤ w3.heap.size := q9; omega, p8, p7, p6, p5, hfin⟩ | omega
    · obtain rfl : pos = kk.length := by omega
      have hnx : ∀ ty, (Instr.next (.pointer (some ⟨w2.heap.size, 0, none⟩)) true ty).run Tryz.prog wr = _ := fun ty => Lib.run_next_end_at wr w2.heap.size ks _ ty hit hlt
      have hd0 : fillP a j [] (l.drop kk.length) = R := by simpa using hfin
      have hd1 : R = some j := hd0.symm
      clear hfin hd0 HA hchs HC KI hl
      subst hd1
      go_wp2
      refine ret_cell_tmp rfl rfl (loadIn_row (c := j) (rowIn_put _ _ _ m2)) rfl ⟨rfl, below_put hbw _ (by omega) _⟩
theorem filled_any (i : In) (l : List Bs) (a : Int) (hl : ∀ x ∈ l, x.length ≤ 1000000) (hn : l.length ≤ 1000001) (h1 : 0 < l.length) {B : Nat} {v : Value} {b0 b1 b2 b3 : Nat} (w : World) (K : Known w b0 b1 b2 b3) (V : Vars w) (hown : w.ownsRow B 9 1 v l.length (strs l)) :
    Calls Tryz.prog 24 #[.agg #[.map (some b0), .map (some b1), .map (some b2), .map (some b3)], .agg i.cells, v, .int .u32 a] w fun e w' => e = .returned (.tuple #[.agg (filledV i l a).cells, .bool (filledP i l a).isSome]) ∧ Below w.heap.size w w' := by
  obtain ⟨g, cap, rfl, _, hg, hcap, hcell, _⟩ := own_row hown h1
  by_cases h : l.length = (kindsP i).length
  · exact filled_yes i l a hl h g cap hcap w K V hg fun j hj => (hcell j hj).trans (strs_at hj)
  · have e1 : filledP i l a = none := by simp [filledP, h]
    have := filled_no (b0 := b0) (b1 := b1) (b2 := b2) (b3 := b3) i l.length a hn h (some ⟨g, 0, none⟩) cap w
    unfold filledV
    rw [e1]
    exact this
end Go.Proofs.YtmldlkcgaepaaaaGreatDoor
