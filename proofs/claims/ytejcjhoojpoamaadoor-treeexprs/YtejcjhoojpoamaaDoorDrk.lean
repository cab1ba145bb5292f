/-
  Layer 9, the document's: which signs stand between operands; a Binary.
-/
import Derived.Test.YtejcjhoojpoamaaDoorOkt
import Derived.Test.YtejcjhoojpoamaaDoorFst
namespace Go.Proofs.YtejcjhoojpoamaaDoor
set_option linter.unusedVariables false
set_option linter.unusedSimpArgs false
open Go.ChangeShapes Go.WideShapes Go.ChangeAt Go.RowKit
attribute [local go_sem ↓] loadTk_seal storeTk_seal loadKeys_seal loadSigns_seal
attribute [local go_sem] loadTk_run storeTk_run rowAt_at rowAt_old rowAt_drew rowAt_drewN roomTk_new roomAt_old roomAt_drew roomAt_drewN putTk_new Tk.fold putRow_past rowTk_put size_put putRow_drew putRow_drewN alloc_drewN setCell_drewN Tk.at0 Tk.at1 Tk.at2 Tk.at3 Tk.size Tk.set0 Tk.set1 Tk.set2 Tk.set3 Tk.ne rowAt_set rowAt_far roomAt_far
attribute [local go_sem ↓] loadNd_seal storeNd_seal
attribute [local go_sem] loadNd_run storeNd_run roomNd_new putNd_new Nc.fold rowNd_put Nc.at0 Nc.at1 Nc.at2 Nc.at3 Nc.at4 Nc.at5 Nc.size Nc.set0 Nc.set1 Nc.set2 Nc.set3 Nc.set4 Nc.set5 Nc.ne
attribute [local go_sem] fieldTk0 fieldTk3
attribute [local go_sem ↓] bslNd_seal
attribute [local go_sem] bslNd1_run bslNd2_run

theorem tkt (x : Tok) (l : Bs) : (x.t == l) = (x.tk.t.toList == l) := by
  show _ = ((bs x.t).toList == l)
  rw [Lib.toList_data, bs_data]
set_option maxHeartbeats 1000000 in
set_option maxRecDepth 20000 in
theorem relation_d (w : World) (b g cap : Nat) (L : List Tok) (i : Nat) (o er p : Int) (h : DAt w b g cap L i o er p) :
    Calls Tryd.prog 35 #[.pointer (some ⟨b, 0, none⟩)] w fun e w' => e = .returned (.bool (relB (hd (L.drop i)))) ∧ Below w.heap.size w w' := by
  have HE : Hid (Calls Tryd.prog 39 #[.pointer (some ⟨b, 0, none⟩)] w _) := peek_d w b g cap L i o er p h
  clear h
  generalize hd (L.drop i) = x at HE ⊢
  have HB : Hid (relB x = relB x) := rfl
  by_cases k2 : x.k = 2
  · have e2 : (x.tk.k == 2) = true := by simpa [Tok.tk] using k2
    have e6 : (x.tk.k == 6) = false := by simp [Tok.tk, k2]
    cases t1 : (x.tk.t.toList == [73, 78])
    · skip
      cases t2 : (x.tk.t.toList == [73, 83])
      · skip
        go_enter Tryd.func35, Tryd.ntmps35
        go_wp2_with (go_at_call 39; refine HE.out.mono ?_; rintro e w1 ⟨rfl, hb1⟩; have hs1 := hb1.size)
        go_ret
        exact ⟨by simp [relB, tkt, k2, t1, t2], by go_grown⟩
      · skip
        go_enter Tryd.func35, Tryd.ntmps35
        go_wp2_with (go_at_call 39; refine HE.out.mono ?_; rintro e w1 ⟨rfl, hb1⟩; have hs1 := hb1.size)
        go_ret
        exact ⟨by simp [relB, tkt, k2, t1, t2], by go_grown⟩
    · skip
      go_enter Tryd.func35, Tryd.ntmps35
      go_wp2_with (go_at_call 39; refine HE.out.mono ?_; rintro e w1 ⟨rfl, hb1⟩; have hs1 := hb1.size)
      go_ret
      exact ⟨by simp [relB, tkt, k2, t1], by go_grown⟩
  · have e2 : (x.tk.k == 2) = false := by simpa [Tok.tk] using k2
    by_cases k6 : x.k = 6
    · have e6 : (x.tk.k == 6) = true := by simpa [Tok.tk] using k6
      cases t2 : (x.tk.t.toList == [61])
      · skip
        cases t3 : (x.tk.t.toList == [35])
        · skip
          cases t4 : (x.tk.t.toList == [60])
          · skip
            cases t5 : (x.tk.t.toList == [60, 61])
            · skip
              cases t6 : (x.tk.t.toList == [62])
              · skip
                cases t7 : (x.tk.t.toList == [62, 61])
                · skip
                  go_enter Tryd.func35, Tryd.ntmps35
                  go_wp2_with (go_at_call 39; refine HE.out.mono ?_; rintro e w1 ⟨rfl, hb1⟩; have hs1 := hb1.size)
                  go_ret
                  exact ⟨by simp [relB, tkt, k2, k6, t2, t3, t4, t5, t6, t7], by go_grown⟩
                · skip
                  go_enter Tryd.func35, Tryd.ntmps35
                  go_wp2_with (go_at_call 39; refine HE.out.mono ?_; rintro e w1 ⟨rfl, hb1⟩; have hs1 := hb1.size)
                  go_ret
                  exact ⟨by simp [relB, tkt, k2, k6, t2, t3, t4, t5, t6, t7], by go_grown⟩
              · skip
                go_enter Tryd.func35, Tryd.ntmps35
                go_wp2_with (go_at_call 39; refine HE.out.mono ?_; rintro e w1 ⟨rfl, hb1⟩; have hs1 := hb1.size)
                go_ret
                exact ⟨by simp [relB, tkt, k2, k6, t2, t3, t4, t5, t6], by go_grown⟩
            · skip
              go_enter Tryd.func35, Tryd.ntmps35
              go_wp2_with (go_at_call 39; refine HE.out.mono ?_; rintro e w1 ⟨rfl, hb1⟩; have hs1 := hb1.size)
              go_ret
              exact ⟨by simp [relB, tkt, k2, k6, t2, t3, t4, t5], by go_grown⟩
          · skip
            go_enter Tryd.func35, Tryd.ntmps35
            go_wp2_with (go_at_call 39; refine HE.out.mono ?_; rintro e w1 ⟨rfl, hb1⟩; have hs1 := hb1.size)
            go_ret
            exact ⟨by simp [relB, tkt, k2, k6, t2, t3, t4], by go_grown⟩
        · skip
          go_enter Tryd.func35, Tryd.ntmps35
          go_wp2_with (go_at_call 39; refine HE.out.mono ?_; rintro e w1 ⟨rfl, hb1⟩; have hs1 := hb1.size)
          go_ret
          exact ⟨by simp [relB, tkt, k2, k6, t2, t3], by go_grown⟩
      · skip
        go_enter Tryd.func35, Tryd.ntmps35
        go_wp2_with (go_at_call 39; refine HE.out.mono ?_; rintro e w1 ⟨rfl, hb1⟩; have hs1 := hb1.size)
        go_ret
        exact ⟨by simp [relB, tkt, k2, k6, t2], by go_grown⟩
    · have e6 : (x.tk.k == 6) = false := by simpa [Tok.tk] using k6
      go_enter Tryd.func35, Tryd.ntmps35
      go_wp2_with (go_at_call 39; refine HE.out.mono ?_; rintro e w1 ⟨rfl, hb1⟩; have hs1 := hb1.size)
      go_ret
      exact ⟨by simp [relB, tkt, k2, k6], by go_grown⟩
set_option maxHeartbeats 1000000 in
set_option maxRecDepth 20000 in
theorem adds_d (w : World) (b g cap : Nat) (L : List Tok) (i : Nat) (o er p : Int) (h : DAt w b g cap L i o er p) :
    Calls Tryd.prog 79 #[.pointer (some ⟨b, 0, none⟩)] w fun e w' => e = .returned (.bool (addB (hd (L.drop i)))) ∧ Below w.heap.size w w' := by
  have HE : Hid (Calls Tryd.prog 39 #[.pointer (some ⟨b, 0, none⟩)] w _) := peek_d w b g cap L i o er p h
  clear h
  generalize hd (L.drop i) = x at HE ⊢
  have HB : Hid (addB x = addB x) := rfl
  by_cases k2 : x.k = 2
  · have e2 : (x.tk.k == 2) = true := by simpa [Tok.tk] using k2
    have e6 : (x.tk.k == 6) = false := by simp [Tok.tk, k2]
    cases t1 : (x.tk.t.toList == [79, 82])
    · skip
      go_enter Tryd.func79, Tryd.ntmps79
      go_wp2_with (go_at_call 39; refine HE.out.mono ?_; rintro e w1 ⟨rfl, hb1⟩; have hs1 := hb1.size)
      go_ret
      exact ⟨by simp [addB, tkt, k2, t1], by go_grown⟩
    · skip
      go_enter Tryd.func79, Tryd.ntmps79
      go_wp2_with (go_at_call 39; refine HE.out.mono ?_; rintro e w1 ⟨rfl, hb1⟩; have hs1 := hb1.size)
      go_ret
      exact ⟨by simp [addB, tkt, k2, t1], by go_grown⟩
  · have e2 : (x.tk.k == 2) = false := by simpa [Tok.tk] using k2
    by_cases k6 : x.k = 6
    · have e6 : (x.tk.k == 6) = true := by simpa [Tok.tk] using k6
      cases t2 : (x.tk.t.toList == [43])
      · skip
        cases t3 : (x.tk.t.toList == [45])
        · skip
          go_enter Tryd.func79, Tryd.ntmps79
          go_wp2_with (go_at_call 39; refine HE.out.mono ?_; rintro e w1 ⟨rfl, hb1⟩; have hs1 := hb1.size)
          go_ret
          exact ⟨by simp [addB, tkt, k2, k6, t2, t3], by go_grown⟩
        · skip
          go_enter Tryd.func79, Tryd.ntmps79
          go_wp2_with (go_at_call 39; refine HE.out.mono ?_; rintro e w1 ⟨rfl, hb1⟩; have hs1 := hb1.size)
          go_ret
          exact ⟨by simp [addB, tkt, k2, k6, t2, t3], by go_grown⟩
      · skip
        go_enter Tryd.func79, Tryd.ntmps79
        go_wp2_with (go_at_call 39; refine HE.out.mono ?_; rintro e w1 ⟨rfl, hb1⟩; have hs1 := hb1.size)
        go_ret
        exact ⟨by simp [addB, tkt, k2, k6, t2], by go_grown⟩
    · have e6 : (x.tk.k == 6) = false := by simpa [Tok.tk] using k6
      go_enter Tryd.func79, Tryd.ntmps79
      go_wp2_with (go_at_call 39; refine HE.out.mono ?_; rintro e w1 ⟨rfl, hb1⟩; have hs1 := hb1.size)
      go_ret
      exact ⟨by simp [addB, tkt, k2, k6], by go_grown⟩
set_option maxHeartbeats 1000000 in
set_option maxRecDepth 20000 in
theorem multiplies_d (w : World) (b g cap : Nat) (L : List Tok) (i : Nat) (o er p : Int) (h : DAt w b g cap L i o er p) :
    Calls Tryd.prog 100 #[.pointer (some ⟨b, 0, none⟩)] w fun e w' => e = .returned (.bool (mulB (hd (L.drop i)))) ∧ Below w.heap.size w w' := by
  have HE : Hid (Calls Tryd.prog 39 #[.pointer (some ⟨b, 0, none⟩)] w _) := peek_d w b g cap L i o er p h
  clear h
  generalize hd (L.drop i) = x at HE ⊢
  have HB : Hid (mulB x = mulB x) := rfl
  by_cases k2 : x.k = 2
  · have e2 : (x.tk.k == 2) = true := by simpa [Tok.tk] using k2
    have e6 : (x.tk.k == 6) = false := by simp [Tok.tk, k2]
    cases t1 : (x.tk.t.toList == [68, 73, 86])
    · skip
      cases t2 : (x.tk.t.toList == [77, 79, 68])
      · skip
        go_enter Tryd.func100, Tryd.ntmps100
        go_wp2_with (go_at_call 39; refine HE.out.mono ?_; rintro e w1 ⟨rfl, hb1⟩; have hs1 := hb1.size)
        go_ret
        exact ⟨by simp [mulB, tkt, k2, t1, t2], by go_grown⟩
      · skip
        go_enter Tryd.func100, Tryd.ntmps100
        go_wp2_with (go_at_call 39; refine HE.out.mono ?_; rintro e w1 ⟨rfl, hb1⟩; have hs1 := hb1.size)
        go_ret
        exact ⟨by simp [mulB, tkt, k2, t1, t2], by go_grown⟩
    · skip
      go_enter Tryd.func100, Tryd.ntmps100
      go_wp2_with (go_at_call 39; refine HE.out.mono ?_; rintro e w1 ⟨rfl, hb1⟩; have hs1 := hb1.size)
      go_ret
      exact ⟨by simp [mulB, tkt, k2, t1], by go_grown⟩
  · have e2 : (x.tk.k == 2) = false := by simpa [Tok.tk] using k2
    by_cases k6 : x.k = 6
    · have e6 : (x.tk.k == 6) = true := by simpa [Tok.tk] using k6
      cases t2 : (x.tk.t.toList == [42])
      · skip
        cases t3 : (x.tk.t.toList == [47])
        · skip
          cases t4 : (x.tk.t.toList == [38])
          · skip
            go_enter Tryd.func100, Tryd.ntmps100
            go_wp2_with (go_at_call 39; refine HE.out.mono ?_; rintro e w1 ⟨rfl, hb1⟩; have hs1 := hb1.size)
            go_ret
            exact ⟨by simp [mulB, tkt, k2, k6, t2, t3, t4], by go_grown⟩
          · skip
            go_enter Tryd.func100, Tryd.ntmps100
            go_wp2_with (go_at_call 39; refine HE.out.mono ?_; rintro e w1 ⟨rfl, hb1⟩; have hs1 := hb1.size)
            go_ret
            exact ⟨by simp [mulB, tkt, k2, k6, t2, t3, t4], by go_grown⟩
        · skip
          go_enter Tryd.func100, Tryd.ntmps100
          go_wp2_with (go_at_call 39; refine HE.out.mono ?_; rintro e w1 ⟨rfl, hb1⟩; have hs1 := hb1.size)
          go_ret
          exact ⟨by simp [mulB, tkt, k2, k6, t2, t3], by go_grown⟩
      · skip
        go_enter Tryd.func100, Tryd.ntmps100
        go_wp2_with (go_at_call 39; refine HE.out.mono ?_; rintro e w1 ⟨rfl, hb1⟩; have hs1 := hb1.size)
        go_ret
        exact ⟨by simp [mulB, tkt, k2, k6, t2], by go_grown⟩
    · have e6 : (x.tk.k == 6) = false := by simpa [Tok.tk] using k6
      go_enter Tryd.func100, Tryd.ntmps100
      go_wp2_with (go_at_call 39; refine HE.out.mono ?_; rintro e w1 ⟨rfl, hb1⟩; have hs1 := hb1.size)
      go_ret
      exact ⟨by simp [mulB, tkt, k2, k6], by go_grown⟩
set_option maxHeartbeats 1000000 in
set_option maxRecDepth 20000 in
theorem binary_d (w : World) (x : Tok) (c1 c2 : Nc) :
    Calls Tryd.prog 37 #[.agg x.tk.cells, .agg c1.cells, .agg c2.cells] w fun e w' => ∃ blk, e = .returned (.agg (⟨37, bs x.t, 0, false, some ⟨blk, 0, none⟩, 2, 2, (x.p : Int)⟩ : Nc).cells) ∧ w.heap.size ≤ blk ∧ w'.heap[blk]? = some (.cells (c1.cells ++ c2.cells) 25 (0, 0)) ∧ Below w.heap.size w w' := by
  go_enter Tryd.func37, Tryd.ntmps37
  go_wp2
  refine ret_cell1 rfl rfl (loadNd_row (c := ⟨37, bs x.t, 0, false, some ⟨w.heap.size + 4, 0, none⟩, 2, 2, (x.p : Int)⟩) (by simp [go_sem]; rfl)) rfl ⟨w.heap.size + 4, rfl, by omega, heap_new' _ _ (by simp), by go_grown⟩
end Go.Proofs.YtejcjhoojpoamaaDoor
