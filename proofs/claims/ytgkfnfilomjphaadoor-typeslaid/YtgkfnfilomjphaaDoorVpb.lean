/-
  Layer 11: whether a record is one of another, or of one that extends that.
-/
import Derived.Test.YtgkfnfilomjphaaDoorVpa
namespace Go.Proofs.YtgkfnfilomjphaaDoor
set_option linter.unusedVariables false
set_option linter.unusedSimpArgs false
open Go.ChangeShapes Go.WideShapes Go.ChangeAt Go.RowKit Go.Shelf
attribute [local go_sem] Oper.semAt_some
attribute [local go_sem ↓] ldQ_seal stQ_seal

def recB (T : List Tt) (i j : Int) : Bool := (isB T i 10 && isB T j 10) && (upA T i).any fun x => decide (x = j)
/-- What stands between two rounds. -/
structure HP (w W : World) (n b : Nat) (i j : Int) (T : List Tt) (pre : List (Rcd T)) : Prop where
  pb : BA W w.heap.size 62 (pE b i j)
  rb : BA W (w.heap.size + 1) 4 #[.bool false]
  nd : ∀ x ∈ pre, x.1 ≠ j
  be : Below w.heap.size w W
  big : n ≤ W.heap.size
theorem HP.grown {w W W' : World} {n b : Nat} {i j : Int} {T : List Tt} {pre : List (Rcd T)} {row : Option Nat} (hn : w.heap.size + 2 ≤ n) (h : HP w W n b i j T pre) (hg : W.grownBy W' row) (hr : ∀ r, row = some r → n ≤ r) : HP w W' n b i j T pre := by
  have ne : ∀ k, k < n → ¬ (some k = row) := fun k hk e => by have := hr k e.symm; omega
  exact ⟨(hg.block _ h.pb.lt (ne _ (by omega))).trans h.pb, (hg.block _ h.rb.lt (ne _ (by omega))).trans h.rb, h.nd, ⟨hg.os.trans h.be.os, hg.tape.trans h.be.tape, hg.output.trans h.be.output, Nat.le_trans h.be.size hg.size, fun k hk => (hg.block k (Nat.lt_of_lt_of_le hk h.be.size) (ne k (by omega))).trans (h.be.block k hk)⟩, Nat.le_trans h.big hg.size⟩
set_option maxRecDepth 100000 in
set_option maxHeartbeats 8000000 in
theorem records_in (n : Nat) (hn : 4 ≤ n) (w : World) (b : Nat) (c : Rc) (L T : List Tt) (A : List Int) (hr : RwR w b c L T A) (hg : Good T) (i j : Int) :
    CallsIn Fence.wide n Tryd.prog 37 #[.agg (pE b i j)] w fun e W' => e = .returned (.bool (recB T i j)) ∧ Below w.heap.size w W' := by
  have h1 : 1 ≤ n := by omega
  obtain ⟨V0, hV0⟩ : ∃ V0, V0 = ((w.alloc (.cells (pE b i j) 62)).alloc (.cells #[.bool false] 4)) := ⟨_, rfl⟩
  have hbV : Below w.heap.size w V0 := by rw [hV0]; go_grown
  have sV : V0.heap.size = w.heap.size + 2 := by rw [hV0]; simp
  have P0 : BA V0 w.heap.size 62 (pE b i j) := by rw [hV0]; exact (BA.new w _ _).below ((Below.refl _ _).alloc (Nat.le_refl _) _)
  have R0 : BA V0 (w.heap.size + 1) 4 #[.bool false] := by rw [hV0, show w.heap.size + 1 = (w.alloc (.cells (pE b i j) 62)).heap.size by simp]; exact BA.new _ _ _
  have ld0 := ldT_run P0 Tryd.underlying62 rfl (by kernel_rfl)
  have AR : Hid (CallsIn Fence.wide (n - 1) Tryd.prog 41 #[.agg (pE b i j), .int .i64 10, .int .i64 10] V0 fun e w' => e = .returned (.bool (isB T i 10 && isB T j 10)) ∧ Below V0.heap.size V0 w') := hid_of (callsIn_wide.2 (are_any V0 b c L T A (hr.below hbV) i j 10 10))
  have HR := hid_of hr
  have HG := hid_of hg
  have HP0 := hid_of P0
  have HR0 := hid_of R0
  have HSV := hid_of sV
  have HBV := hid_of hbV
  clear hr hg P0 R0 hbV sV
  unfold recB
  cases hb2 : (isB T i 10 && isB T j 10)
  · rw [hb2] at AR
    rw [Bool.false_and]
    have hu := hV0
    unfold pE at AR ld0 hu ⊢
    refine callsIn_of_wp_marks Tryd.func37 rfl trivial ?_ rfl
    simp only [Tryd.ntmps37, List.size_toArray, List.length_cons, List.length_nil, Nat.reduceAdd, Nat.reduceSub, Array.replicate_succ, Array.replicate_zero, List.push_toArray, List.append_toArray, List.nil_append, List.cons_append]
    rw [hu] at AR ld0
    gi_wp2_with (refine ⟨trivial, ?_⟩; gi_at_call 41; refine AR.out.mono ?_; rintro e w1 ⟨rfl, hB1⟩; rw [← hu] at hB1; have HB1 := hid_of hB1; have R1 := HR0.out.below hB1; have rc := R1.cell 0; have rf := R1.fz 0; simp at rc; have hlt := R1.lt; clear R1 hB1)
    have hc5 := World.cell?_setCell_same' w1 ⟨w.heap.size + 1, 0, none⟩ (.bool false) (by rw [rc]; rfl)
    refine ⟨.bool false, ?_, rfl, (HBV.out.trans (HB1.out.mono HBV.out.size)).setCell (p := ⟨w.heap.size + 1, 0, none⟩) (by simp) _⟩
    simp [results, Tryd.f37, go_sem, hc5]
  · rw [hb2] at AR
    rw [Bool.true_and]
    have hi : isB T i 10 = true := by simp only [Bool.and_eq_true] at hb2; exact hb2.1
    have HI := hid_of hi
    have hu := hV0
    clear hi hb2
    unfold pE at AR ld0 hu ⊢
    refine callsIn_of_wp_marks Tryd.func37 rfl trivial ?_ rfl
    simp only [Tryd.ntmps37, List.size_toArray, List.length_cons, List.length_nil, Nat.reduceAdd, Nat.reduceSub, Array.replicate_succ, Array.replicate_zero, List.push_toArray, List.append_toArray, List.nil_append, List.cons_append]
    rw [hu] at AR ld0
    gi_wp2_with (first
      | (refine ⟨trivial, ?_⟩; gi_at_call 41; refine AR.out.mono ?_; rintro e w1 ⟨rfl, hB1⟩; rw [← hu] at hB1; have HB1 := hid_of hB1; have P1 := HP0.out.below hB1; have p10 := P1.cell 0; have p11 := P1.cell 1; simp [pE] at p10 p11; have HP1 := hid_of P1; have hlt := P1.lt; clear P1 hB1)
      | (refine ⟨trivial, ?_⟩; gi_at_call 18; refine (upFrom_in (n - 1) _ _ _).mono ?_; rintro e w' ⟨rfl, rfl⟩))
    obtain ⟨W0, hW0⟩ : ∃ W0, W0 = ((w1.alloc (.cells #[.pointer (some ⟨b, 0, none⟩)] 43)).alloc (.cells #[.int .i64 i] 3)) := ⟨_, rfl⟩
    rw [← hW0]
    have k1 : Below w1.heap.size w1 W0 := by rw [hW0]; go_grown
    have s0 : W0.heap.size = w1.heap.size + 2 := by rw [hW0]; simp
    have B3 : BA W0 w1.heap.size 43 #[.pointer (some ⟨b, 0, none⟩)] := by
      rw [hW0]
      exact (BA.new w1 _ _).below ((Below.refl _ _).alloc (Nat.le_refl _) _)
    have B4 : BA W0 (w1.heap.size + 1) 3 #[.int .i64 i] := by
      rw [hW0, show w1.heap.size + 1 = (w1.alloc (.cells #[.pointer (some ⟨b, 0, none⟩)] 43)).heap.size by simp]
      exact BA.new _ _ _
    have bw1 : Below w.heap.size w w1 := HBV.out.trans (HB1.out.mono HBV.out.size)
    have sz1 : w.heap.size + 2 ≤ w1.heap.size := by have := HB1.out.size; have := HSV.out; omega
    have N0 : HP w W0 W0.heap.size b i j T [] := ⟨HP1.out.below k1, (HR0.out.below HB1.out).below k1, (by intro x hx; simp at hx), bw1.trans (k1.mono bw1.size), Nat.le_refl _⟩
    have HN0 := hid_of N0
    have HB3 := hid_of B3
    have HB4 := hid_of B4
    have HS := hid_of s0
    have HSZ := hid_of sz1
    have HR1 := hid_of (HR.out.below (bw1.mono (Nat.le_refl _) |>.trans (Below.refl _ _)))
    clear hW0 N0 B3 B4 s0 ld0 p10 p11 hlt hu hV0
    refine wpIn_rangeFunc_ownG rfl h1 (gf := 35) (lb := #[.pointer (some ⟨w1.heap.size + 1, 0, none⟩), .pointer (some ⟨w1.heap.size, 0, none⟩)]) rfl trivial (enters_of Tryd.func35 (by kernel_rfl) rfl)
      (w0 := W0) (encs := fun x : Rcd T => #[.int .i64 x.1]) (Kp := KpU w1.heap.size (w1.heap.size + 1) w1.heap.size) (S := fun ys => ys.map (·.1) = upA T i) (Sp := fun pre => pre.map (·.1) <+: upA T i) (N := (upA T i).length)
      (fun l₀ J Jx W hW hJ hJx hY h0 => up1s_in Fence.wide (n - 1) trivial rfl (by omega) l₀ (w1.heap.size + 1) w1.heap.size b w1 c L T A HR1.out HG.out i (.inr HI.out) J Jx (fun s A B hs hg => hJ s A B none hs hg (fun r e => by cases e)) hY W (k1.trans (hW.mono k1.size)) (HB4.out.below hW) (HB3.out.below hW) h0)
      KpU.t (fun W l o o' h1 h2 _ _ => KpU.b (N := W0.heap.size) (by rw [HS.out]; omega) (by rw [HS.out]; omega) (by rw [HS.out]; omega) W l o o' h1 h2) (Below.refl _ _) (fun _ => rfl)
      (fun pre W => HP w W W0.heap.size b i j T pre)
      (fun cd pre W => cd = .ret ∧ BA W (w.heap.size + 1) 4 #[.bool true] ∧ (∃ x ∈ pre, x.1 = j) ∧ Below w.heap.size w W)
      (fun s A B row hs hg hr => hs.grown (by have := HS.out; have := HSZ.out; omega) hg (fun r e => (hr r e).1))
      (fun cd s A B row hs hg hr => ⟨hs.1, (hg.block _ hs.2.1.lt (fun e => by have := (hr _ e.symm).1; have := HS.out; have := HSZ.out; omega)).trans hs.2.1, hs.2.2.1, ⟨hg.os.trans hs.2.2.2.os, hg.tape.trans hs.2.2.2.tape, hg.output.trans hs.2.2.2.output, Nat.le_trans hs.2.2.2.size hg.size, fun k hk => (hg.block k (Nat.lt_of_lt_of_le hk hs.2.2.2.size) (fun e => by have := (hr _ e.symm).1; have := HS.out; have := HSZ.out; omega)).trans (hs.2.2.2.block k hk)⟩⟩)
      HN0.out
      (fun x => { tmps := #[.agg (pE b i j), .pointer (some ⟨w.heap.size, 0, none⟩), .pointer (some ⟨w.heap.size + 1, 0, none⟩), .int .i64 x.1, .agg (pE b i j), .bool true, .bool false, .pointer (some ⟨w.heap.size, 0, none⟩), .pointer (some ⟨b, 0, none⟩), .pointer (some ⟨w.heap.size, 1, none⟩), .int .i64 i, .func (.func 35) #[] #[.pointer (some ⟨w1.heap.size + 1, 0, none⟩), .pointer (some ⟨w1.heap.size, 0, none⟩)], .int .i64 x.1, undef, undef, undef, undef], defers := [] }) ?assign ?body ?done ?stop
    case assign =>
      intro l x W K hK
      gi_wp2
      exact hK
    case body =>
      rintro l' pre x W hI hlt
      obtain ⟨xv, hx⟩ := x
      have ca : W.cell? ⟨w.heap.size, 2, none⟩ = some (.int .i64 j) := hI.pb.cell 2
      have rc : W.cell? ⟨w.heap.size + 1, 0, none⟩ = some (.bool false) := hI.rb.cell 0
      have rf := hI.rb.fz 0
      have hp0 : w.heap.size < W.heap.size := hI.pb.lt
      have hp1 : w.heap.size + 1 < W.heap.size := hI.rb.lt
      have HW := hid_of hI
      cases hxj : decide (xv = j)
      · have e1 : (xv == j) = false := by simpa using hxj
        have HX := hid_of hxj
        clear hI hlt hxj
        gi_wp2
        refine ⟨KeepsFrom.refl _ _, ⟨Below.refl _ _, rfl, rfl⟩, ⟨HW.out.pb, HW.out.rb, ?_, HW.out.be, HW.out.big⟩⟩
        intro y hy
        rw [List.mem_append] at hy
        rcases hy with hy | hy
        · exact HW.out.nd y hy
        · rw [List.mem_singleton] at hy
          subst hy
          simpa using HX.out
      · have e1 : (xv == j) = true := by simpa using hxj
        have HX := hid_of hxj
        clear hI hlt hxj
        gi_wp2
        refine ⟨(KeepsOthers.setCell W _ _).from _, rfl, HW.out.rb.set _, ⟨⟨xv, hx⟩, by simp, by simpa using HX.out⟩, HW.out.be.setCell (p := ⟨w.heap.size + 1, 0, none⟩) (by simp) _⟩
    case done =>
      rintro D ys W hD hys hI hK
      have rc : W.cell? ⟨w.heap.size + 1, 0, none⟩ = some (.bool false) := hI.rb.cell 0
      have rf := hI.rb.fz 0
      have HW := hid_of hI
      have hnd : ((upA T i).any fun x => decide (x = j)) = false := by
        rw [← hys, List.any_map, List.any_eq_false]
        intro x hx
        simpa using hI.nd x hx
      clear hI hys
      gi_wp2
      have hK' := (KeepsOthers.setCell W ⟨w.heap.size + 1, 0, none⟩ (.bool false)).same D _ hK rfl
      refine ⟨by simp, .inl ⟨_, _, rfl, run_takeDeferred hK', ?_⟩⟩
      have hc5 := cell_kept (World.cell?_setCell_same' W ⟨w.heap.size + 1, 0, none⟩ (.bool false) (by rw [rc]; rfl)) (grownBy_putObj' _ D (.deferred none)) (fun r e => by cases e; exact ⟨_, hK', rfl⟩)
      refine ⟨.bool false, ?_, by rw [hnd], (HW.out.be.setCell (p := ⟨w.heap.size + 1, 0, none⟩) (by simp) _).trans (belowK_b (w := w) (Nat.le_refl _) _ D _ _ (by have := HS.out; have := HSZ.out; omega) hK' rfl rfl)⟩
      simp [results, Tryd.f37, go_sem, hc5]
    case stop =>
      rintro D cd pre W hD hpre ⟨rfl, hb, ⟨x, hx, hxc⟩, hB⟩ hK
      have hrc := hb.cell 0
      simp at hrc
      have hnd : ((upA T i).any fun x => decide (x = j)) = true := by
        rw [List.any_eq_true]
        exact ⟨x.1, hpre.subset (List.mem_map.2 ⟨x, hx, rfl⟩), by simpa using hxc⟩
      gi_wp2
      refine ⟨by simp, .inl ⟨_, _, rfl, run_takeDeferred hK, ?_⟩⟩
      have hc5 := cell_kept hrc (grownBy_putObj' _ D (.deferred none)) (fun r e => by cases e; exact ⟨_, hK, rfl⟩)
      refine ⟨.bool true, ?_, by rw [hnd], hB.trans (belowK_b (w := w) (Nat.le_refl _) W D _ _ (by have := HS.out; have := HSZ.out; omega) hK rfl rfl)⟩
      simp [results, Tryd.f37, go_sem, hc5]
theorem records_any (w : World) (b : Nat) (c : Rc) (L T : List Tt) (A : List Int) (hr : RwR w b c L T A) (hg : Good T) (i j : Int) : Calls Tryd.prog 37 #[.agg (pE b i j)] w fun e w' => e = .returned (.bool (recB T i j)) ∧ Below w.heap.size w w' := callsIn_wide.1 (records_in 8 (by omega) w b c L T A hr hg i j)
end Go.Proofs.YtgkfnfilomjphaaDoor
