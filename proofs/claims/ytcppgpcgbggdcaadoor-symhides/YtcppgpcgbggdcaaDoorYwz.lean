/-
  Layer 13: the writer writes symbols.
-/
import Derived.Test.YtcppgpcgbggdcaaDoorYwb
namespace Go.Proofs.YtcppgpcgbggdcaaDoor
set_option linter.unusedVariables false
set_option linter.unusedSimpArgs false
open Go.ChangeShapes Go.WideShapes Go.ChangeAt Go.RowKit Go.Shelf
attribute [local go_sem] Oper.semAt_some
attribute [local go_sem ↓] ldC_seal stC_seal ldV_seal stV_seal ldP_seal stP_seal

set_option maxRecDepth 100000 in
set_option maxHeartbeats 32000000 in
theorem symbols_z (n : Nat) (hn : 8 ≤ n) (w : World) (p B : Nat) (l : List Int) (hp : p < w.heap.size) (c : Sc) (o : Sy) (ls : List (Pc × Sl)) (hT : Calls Tryd.prog 57 #[.pointer (some ⟨p, 0, none⟩), .string o.nm] ((w.alloc (.cells #[.pointer (some ⟨p, 0, none⟩)] 73)).alloc (.cells c.cells 26)) fun e Y => e = .returned (.tuple #[]) ∧ SI w Y p B c (l ++ textL o.nm)) (hr : SyO w p c o ls) (hnm : o.nm.size ≤ 1000) (hcs : ∀ x ∈ o.cs, x.nm.size ≤ 1000 ∧ x.s.size ≤ 1000 ∧ 0 ≤ x.ty ∧ x.ty ≤ 255) (hcl : o.cs.length ≤ 1000) (hl : l.length ≤ 1000) (hm : ∀ i, i ≤ o.cs.length → (sumL consL o.cs i).length ≤ 600000000) (hvl : o.vs.length ≤ 1000) (hvv : ∀ x ∈ o.vs, x.nm.size ≤ 1000 ∧ 0 ≤ x.fm ∧ x.fm ≤ 255 ∧ 0 ≤ x.ln ∧ x.ln ≤ 4294967295) (hm2 : ∀ i, i ≤ o.vs.length → (sumL varL o.vs i).length ≤ 90000000) (hpl : ls.length ≤ 1000) (hpp : ∀ x ∈ ls, x.1.nm.size ≤ 1000 ∧ x.1.ps.length ≤ 1000 ∧ 0 ≤ x.1.rs ∧ x.1.rs ≤ 255 ∧ ∀ v ∈ x.1.ps, 0 ≤ v.fm ∧ v.fm ≤ 255) (hm3 : ∀ i, i ≤ ls.length → (sumL prcL ls i).length ≤ 9000000) :
    CallsIn Fence.wide n Tryd.prog 29 #[.pointer (some ⟨p, 0, none⟩), .agg c.cells] w fun e W' => e = .returned (.tuple #[]) ∧ Wr W' p B (l ++ symL o ls) ∧ Wk w W' p := by
  have hn1 : 1 ≤ n := by omega
  have e1 := textL_len o.nm
  have G1 : Hid (Calls Tryd.prog 57 #[.pointer (some ⟨p, 0, none⟩), .string c.nm] ((w.alloc (.cells #[.pointer (some ⟨p, 0, none⟩)] 73)).alloc (.cells c.cells 26)) fun e Y => e = .returned (.tuple #[]) ∧ Y.cell? ⟨w.heap.size, 0, none⟩ = some (.pointer (some ⟨p, 0, none⟩)) ∧ Y.cell? ⟨w.heap.size + 1, 1, none⟩ = some (.slice c.cs.a c.cs.n c.cs.c) ∧ Hid (SI w Y p B c (l ++ textL o.nm))) := by
    rw [hr.nm]
    exact hid_of (hT.mono fun e Y hh => ⟨hh.1, hh.2.b0.cell 0, hh.2.b1.cell 1, hh.2⟩)
  have k1 : ((w.alloc (.cells #[.pointer (some ⟨p, 0, none⟩)] 73)).alloc (.cells c.cells 26)).cell? ⟨w.heap.size, 0, none⟩ = some (.pointer (some ⟨p, 0, none⟩)) := ((BA.new w _ _).below ((Below.refl _ _).alloc (Nat.le_refl _) _)).cell 0
  have k2 : ((w.alloc (.cells #[.pointer (some ⟨p, 0, none⟩)] 73)).alloc (.cells c.cells 26)).cell? ⟨w.heap.size + 1, 0, none⟩ = some (.string c.nm) := by
    have := (BA.new (w.alloc (.cells #[.pointer (some ⟨p, 0, none⟩)] 73)) 26 c.cells).cell 0
    rw [show (w.alloc (.cells #[.pointer (some ⟨p, 0, none⟩)] 73)).heap.size = w.heap.size + 1 by simp] at this
    exact this
  clear hT
  refine callsIn_of_wp_marks Tryd.func29 rfl trivial ?_ rfl
  simp only [Tryd.ntmps29, List.size_toArray, List.length_cons, List.length_nil, Nat.reduceAdd, Nat.reduceSub, Array.replicate_succ, Array.replicate_zero, List.push_toArray, List.append_toArray, List.nil_append, List.cons_append]
  gi_wp2_with (first
    | (refine ⟨trivial, ?_⟩; gi_at_call 57; refine (callsIn_wide.2 G1.out).mono ?_; rintro e w1 ⟨rfl, k3, k4, H1⟩)
    | (refine ⟨trivial, ?_⟩; gi_at_call 58; refine (writtenC_in (n - 1) p c.cs _).mono ?_; rintro e w2 ⟨rfl, rfl⟩))
  have hp1 := H1.out.wr.plt
  obtain ⟨X, hX⟩ : ∃ X, X = (w1.alloc (.cells #[.pointer (some ⟨p, 0, none⟩)] 73)).alloc (.cells #[.slice c.cs.a c.cs.n c.cs.c] 22) := ⟨_, rfl⟩
  have hXs : X.heap.size = w1.heap.size + 2 := by rw [hX]; simp
  have bX : Below w1.heap.size w1 X := by rw [hX]; go_grown
  have SX : SI w X p B c (l ++ textL o.nm) := H1.out.next (H1.out.wr.below bX) (Wk.below hp1 bX)
  have bbw : BA X w1.heap.size 73 #[.pointer (some ⟨p, 0, none⟩)] := by rw [hX]; exact (BA.new w1 _ _).below ((Below.refl _ _).alloc (Nat.le_refl _) _)
  have bbr : BA X (w1.heap.size + 1) 22 #[.slice c.cs.a c.cs.n c.cs.c] := by rw [hX, show w1.heap.size + 1 = (w1.alloc (.cells #[.pointer (some ⟨p, 0, none⟩)] 73)).heap.size by simp]; exact BA.new _ _ _
  have fbw : Off X p w1.heap.size := by rw [hX]; exact (off_new H1.out.wr _).below (H1.out.wr.below ((Below.refl _ _).alloc (Nat.le_refl _) _)).plt ((Below.refl _ _).alloc (Nat.le_refl _) _)
  have fbr : Off X p (w1.heap.size + 1) := by rw [hX, show w1.heap.size + 1 = (w1.alloc (.cells #[.pointer (some ⟨p, 0, none⟩)] 73)).heap.size by simp]; exact off_new (H1.out.wr.below ((Below.refl _ _).alloc (Nat.le_refl _) _)) _
  rw [← hX]
  have HX := hid_of (And.intro SX (And.intro bbw (And.intro bbr (And.intro fbw fbr))))
  have HXs := hid_of hXs
  have HR := hid_of hr
  have HC := hid_of hcs
  have HM := hid_of hm
  have HM2 := hid_of hm2
  have HVV := hid_of hvv
  have HPP := hid_of hpp
  have HM3 := hid_of hm3
  clear hm2 hvv hpp hm3
  clear hX SX bbw bbr fbw fbr bX hXs hr hcs hm k1 k2 k3 k4 G1
  refine range_outer rfl hn1 (gf := 81) (lb := #[.pointer (some ⟨w1.heap.size, 0, none⟩), .pointer (some ⟨w1.heap.size + 1, 0, none⟩)]) rfl trivial (enters_of Tryd.func81 (by kernel_rfl) rfl) (Fin := fun W2 => SI w W2 p B c (l ++ textL o.nm ++ numL 4 (o.cs.length : Int) ++ sumL consL o.cs o.cs.length) ∧ Off W2 p X.heap.size ∧ Off W2 p (X.heap.size + 1)) ?loop1 ?done1
  case loop1 =>
    intro fn _ r hrr
    obtain ⟨SX, bbw, bbr, fbw, fbr⟩ := HX.out
    obtain ⟨X1, hX1⟩ : ∃ X1, X1 = X.alloc (.deferred (some [])) := ⟨_, rfl⟩
    have hX1s : X1.heap.size = X.heap.size + 1 := by rw [hX1]; simp
    have b1 : Below X.heap.size X X1 := by rw [hX1]; exact (Below.refl _ _).alloc (Nat.le_refl _) _
    have wX1 : Wr X1 p B (l ++ textL o.nm) := SX.wr.below b1
    have oD : Off X1 p X.heap.size := by rw [hX1]; exact off_new SX.wr _
    have dD : X1.heap[X.heap.size]? = some (.deferred (some [])) := by rw [hX1]; exact blk_new _ _
    rw [← hX1]
    obtain ⟨X2, hX2⟩ : ∃ X2, X2 = X1.alloc (.loop r) := ⟨_, rfl⟩
    have b2 : Below X1.heap.size X1 X2 := by rw [hX2]; exact (Below.refl _ _).alloc (Nat.le_refl _) _
    have b12 : Below X.heap.size X X2 := b1.trans (b2.mono (by omega))
    have wX2 : Wr X2 p B (l ++ textL o.nm) := wX1.below b2
    have oL : Off X2 p (X.heap.size + 1) := by rw [hX2, ← hX1s]; exact off_new wX1 _
    have dL : X2.heap[X.heap.size + 1]? = some (.loop r) := by rw [hX2, ← hX1s]; exact blk_new _ _
    have kX := Wk.below SX.wr.plt b12
    have S2 : SI w X2 p B c (l ++ textL o.nm) := SX.next wX2 kX
    have oD2 := oD.below wX1.plt b2
    have dD2 : X2.heap[X.heap.size]? = some (.deferred (some [])) := (b2.block _ (by omega)).trans dD
    rw [← hX2]
    have hcn := HR.out.cs.rd.len
    have bw2 : BA X2 w1.heap.size 73 #[.pointer (some ⟨p, 0, none⟩)] := bbw.below b12
    have br2 : BA X2 (w1.heap.size + 1) 22 #[.slice c.cs.a c.cs.n c.cs.c] := bbr.below b12
    refine (written_con (n - 1) (by omega) (X.heap.size + 1) p B w1.heap.size (w1.heap.size + 1) (l ++ textL o.nm) c.cs o.cs X2 wX2 (HR.out.cs.later S2.wk) consL 0 bw2 (fbw.below SX.wr.plt b12) br2 (fbr.below SX.wr.plt b12) hcl (fun i hi => by have := HM.out i hi; rw [List.length_append]; omega) ?hY).mono ?_
    case hY =>
      intro i hi W1 hw1 hk1
      have hxc := HC.out _ (List.getElem_mem hi)
      have hmi := HM.out i (by omega)
      have hnl := numL_len 4 (o.cs.length : Int)
      refine round_con (n - 1 - 1) (X.heap.size + 1) p B w.heap.size _ o.cs[i] W1 r hw1 ((oL.keep hk1).1.trans dL) (by rw [hrr]) (by rw [hrr]) (oL.keep hk1).2 ((S2.o0.keep hk1).1.trans S2.b0) (S2.o0.keep hk1).2 (by have := SX.o0.1; omega) hxc.1 hxc.2.1 hxc.2.2.1 hxc.2.2.2 (by rw [List.length_append, List.length_append, List.length_append]; omega) (by omega) (by rw [hrr]; rfl) ?_
      intro K Wa Z hst hk
      subst hrr
      have hn3 : 1 ≤ n - 1 - 1 := by omega
      unfold zeroC at hst
      generalize cEnc o.cs[i] = cc at *
      have HK := hid_of hk
      clear hk hxc hmi hnl hk1 hw1 bw2 br2 S2 oD oD2 dD dD2 dL oL wX1 wX2 kX b1 b2 b12 SX bbw bbr fbw fbr hcn
      gi_wp2
      refine HK.out _ ?_
      intro Z2 Q hld hcell hcall
      have HCL := hid_of hcall
      clear hcall HK
      gi_wp2_with (refine ⟨trivial, ?_⟩; gi_at_call 59; refine HCL.out.mono ?_; rintro e W3 ⟨rfl, hq⟩)
      exact hq _
    rintro e W2 ⟨hv, g1, g2⟩
    exact ⟨hv, (oL.keep g2).1.trans dL, (oD2.keep g2).1.trans dD2, S2.next g1 g2, (oD2.keep g2).2, (oL.keep g2).2⟩
  case done1 =>
    intro W2 ob ob' hF hlo hnc hD
    obtain ⟨S2, oD, oL⟩ := hF
    have hb1 := HX.out.1.o1.1
    have S3 := S2.putObj oL (by omega) (by omega) (by omega) ob'
    have k5 := S3.b0.cell 0
    have k6 : (W2.putObj (X.heap.size + 1) ob').cell? ⟨w.heap.size + 1, 2, none⟩ = some (.slice c.vs.a c.vs.n c.vs.c) := S3.b1.cell 2
    simp at k5
    have HS3 := hid_of S3
    have HD : Hid (Mk (W2.putObj (X.heap.size + 1) ob') p X.heap.size) := hid_of ⟨hD, oD.putObj oL.2.1 _⟩
    generalize W2.putObj (X.heap.size + 1) ob' = Y at *
    clear S2 oD oL S3 hlo hnc hD
    gi_wp2_with (refine ⟨trivial, ?_⟩; gi_at_call 60; refine (writtenV_in (n - 1) p c.vs _).mono ?_; rintro e w2 ⟨rfl, rfl⟩)
    have hpY := HS3.out.wr.plt
    obtain ⟨V, hV⟩ : ∃ V, V = (Y.alloc (.cells #[.pointer (some ⟨p, 0, none⟩)] 73)).alloc (.cells #[.slice c.vs.a c.vs.n c.vs.c] 23) := ⟨_, rfl⟩
    have bV : Below Y.heap.size Y V := by rw [hV]; go_grown
    obtain ⟨L2, hL2⟩ : ∃ L2, L2 = l ++ textL o.nm ++ numL 4 (o.cs.length : Int) ++ sumL consL o.cs o.cs.length := ⟨_, rfl⟩
    rw [← hL2] at HS3
    have hL2b : L2.length ≤ 600003000 := by
      have := HM.out o.cs.length (Nat.le_refl _)
      have := numL_len 4 (o.cs.length : Int)
      rw [hL2, List.length_append, List.length_append, List.length_append]; omega
    have SV : SI w V p B c L2 := HS3.out.next (HS3.out.wr.below bV) (Wk.below hpY bV)
    have bbw2 : BA V Y.heap.size 73 #[.pointer (some ⟨p, 0, none⟩)] := by rw [hV]; exact (BA.new Y _ _).below ((Below.refl _ _).alloc (Nat.le_refl _) _)
    have bbr2 : BA V (Y.heap.size + 1) 23 #[.slice c.vs.a c.vs.n c.vs.c] := by rw [hV, show Y.heap.size + 1 = (Y.alloc (.cells #[.pointer (some ⟨p, 0, none⟩)] 73)).heap.size by simp]; exact BA.new _ _ _
    have fbw2 : Off V p Y.heap.size := by rw [hV]; exact (off_new HS3.out.wr _).below (HS3.out.wr.below ((Below.refl _ _).alloc (Nat.le_refl _) _)).plt ((Below.refl _ _).alloc (Nat.le_refl _) _)
    have fbr2 : Off V p (Y.heap.size + 1) := by rw [hV, show Y.heap.size + 1 = (Y.alloc (.cells #[.pointer (some ⟨p, 0, none⟩)] 73)).heap.size by simp]; exact off_new (HS3.out.wr.below ((Below.refl _ _).alloc (Nat.le_refl _) _)) _
    rw [← hV]
    have mk1 : Mk V p X.heap.size := HD.out.keep (Wk.below hpY bV)
    have hXY : Hid (X.heap.size < Y.heap.size) := hid_of HD.out.2.1
    have hYV : Hid (Y.heap.size ≤ V.heap.size) := hid_of bV.size
    have HV := hid_of (And.intro SV (And.intro bbw2 (And.intro bbr2 (And.intro fbw2 fbr2))))
    have HK1 := hid_of mk1
    clear hV SV bbw2 bbr2 fbw2 fbr2 bV k5 k6 mk1 HD
    refine range_outer rfl hn1 (gf := 83) (lb := #[.pointer (some ⟨Y.heap.size, 0, none⟩), .pointer (some ⟨Y.heap.size + 1, 0, none⟩)]) rfl trivial (enters_of Tryd.func83 (by kernel_rfl) rfl) (Fin := fun W2 => SI w W2 p B c (L2 ++ numL 4 (o.vs.length : Int) ++ sumL varL o.vs o.vs.length) ∧ Off W2 p V.heap.size ∧ Off W2 p (V.heap.size + 1) ∧ Mk W2 p X.heap.size) ?loop2 ?done2
    case loop2 =>
      intro fn _ r hrr
      obtain ⟨SX, bbw, bbr, fbw, fbr⟩ := HV.out
      obtain ⟨X1, hX1⟩ : ∃ X1, X1 = V.alloc (.deferred (some [])) := ⟨_, rfl⟩
      have hX1s : X1.heap.size = V.heap.size + 1 := by rw [hX1]; simp
      have b1 : Below V.heap.size V X1 := by rw [hX1]; exact (Below.refl _ _).alloc (Nat.le_refl _) _
      have wX1 : Wr X1 p B L2 := SX.wr.below b1
      have oD : Off X1 p V.heap.size := by rw [hX1]; exact off_new SX.wr _
      have dD : X1.heap[V.heap.size]? = some (.deferred (some [])) := by rw [hX1]; exact blk_new _ _
      rw [← hX1]
      obtain ⟨X2, hX2⟩ : ∃ X2, X2 = X1.alloc (.loop r) := ⟨_, rfl⟩
      have b2 : Below X1.heap.size X1 X2 := by rw [hX2]; exact (Below.refl _ _).alloc (Nat.le_refl _) _
      have b12 : Below V.heap.size V X2 := b1.trans (b2.mono (by omega))
      have wX2 : Wr X2 p B L2 := wX1.below b2
      have oL : Off X2 p (V.heap.size + 1) := by rw [hX2, ← hX1s]; exact off_new wX1 _
      have dL : X2.heap[V.heap.size + 1]? = some (.loop r) := by rw [hX2, ← hX1s]; exact blk_new _ _
      have kX := Wk.below SX.wr.plt b12
      have S2 : SI w X2 p B c L2 := SX.next wX2 kX
      have oD2 := oD.below wX1.plt b2
      have dD2 : X2.heap[V.heap.size]? = some (.deferred (some [])) := (b2.block _ (by omega)).trans dD
      rw [← hX2]
      have bw2 : BA X2 Y.heap.size 73 #[.pointer (some ⟨p, 0, none⟩)] := bbw.below b12
      have br2 : BA X2 (Y.heap.size + 1) 23 #[.slice c.vs.a c.vs.n c.vs.c] := bbr.below b12
      refine (written_var (n - 1) (by omega) (V.heap.size + 1) p B Y.heap.size (Y.heap.size + 1) L2 c.vs o.vs X2 wX2 (HR.out.vs.later S2.wk) varL 0 bw2 (fbw.below SX.wr.plt b12) br2 (fbr.below SX.wr.plt b12) hvl (fun i hi => by have := HM2.out i hi; omega) ?hY2).mono ?_
      case hY2 =>
        intro i hi W1 hw1 hk1
        obtain ⟨v1, v2, v3, v4, v5⟩ := HVV.out _ (List.getElem_mem hi)
        have hmi := HM2.out i (by omega)
        have hnl := numL_len 4 (o.vs.length : Int)
        have hlen1 : (L2 ++ numL 4 (o.vs.length : Int) ++ sumL varL o.vs i).length ≤ 700000000 := by rw [List.length_append, List.length_append]; omega
        refine round_gen (n - 1 - 1) (V.heap.size + 1) p B w.heap.size _ _ 69 zeroV (vEnc o.vs[i]) W1 r rfl (by kernel_rfl) (by simp [vEnc, Value.oneCell']) hw1 ((oL.keep hk1).1.trans dL) (by rw [hrr]) (by rw [hrr]) (oL.keep hk1).2 ((S2.o0.keep hk1).1.trans S2.b0) (S2.o0.keep hk1).2 (by have := SX.o0.1; omega) (by rw [hrr]; rfl) ?_
        intro K Z hst hk
        have hn3 : 1 ≤ n - 1 - 1 := by omega
        have HK := hid_of hk
        generalize L2 ++ numL 4 (o.vs.length : Int) ++ sumL varL o.vs i = l1 at *
        generalize o.vs[i] = x at *
        unfold zeroV at hst
        clear hk hmi hnl hk1 hw1 bw2 br2 S2 oD oD2 dD dD2 dL oL wX1 wX2 kX b1 b2 b12 SX bbw bbr fbw fbr hL2b hL2
        subst hrr
        have e1 := textL_len x.nm
        unfold vEnc at hst HK ⊢
        gi_wp2
        refine HK.out _ ?_
        clear HK hst
        intro X3 hA hsame
        have c1 : X3.cell? ⟨w.heap.size, 0, none⟩ = some (.pointer (some ⟨p, 0, none⟩)) := hA.bp.cell 0
        have c2 : X3.cell? ⟨W1.heap.size, 0, none⟩ = some (.string x.nm) := hA.bx.cell 0
        have keep : ∀ Y, Wk X3 Y p → Y.cell? ⟨w.heap.size, 0, none⟩ = some (.pointer (some ⟨p, 0, none⟩)) ∧ Y.cell? ⟨W1.heap.size, 1, none⟩ = some (.int .i64 x.fm) ∧ Y.cell? ⟨W1.heap.size, 2, none⟩ = some (.int .i64 x.ln) := fun Y hY => ⟨(World.cell?_of_block (a := ⟨w.heap.size, 0, none⟩) (hA.o0.keep hY).1).trans c1, (World.cell?_of_block (a := ⟨W1.heap.size, 1, none⟩) (hA.ox.keep hY).1).trans (hA.bx.cell 1), (World.cell?_of_block (a := ⟨W1.heap.size, 2, none⟩) (hA.ox.keep hY).1).trans (hA.bx.cell 2)⟩
        have T1 : Hid (Calls Tryd.prog 57 #[.pointer (some ⟨p, 0, none⟩), .string x.nm] X3 fun e Y => e = .returned (.tuple #[]) ∧ Y.cell? ⟨w.heap.size, 0, none⟩ = some (.pointer (some ⟨p, 0, none⟩)) ∧ Y.cell? ⟨W1.heap.size, 1, none⟩ = some (.int .i64 x.fm) ∧ Hid (Wr Y p B (l1 ++ textL x.nm) ∧ Wk X3 Y p)) := hid_of ((text_z X3 p B l1 hA.wr x.nm v1 (by omega)).mono fun e Y hh => ⟨hh.1, (keep Y hh.2.2).1, (keep Y hh.2.2).2.1, hh.2⟩)
        have T2 : Hid (∀ X, Wr X p B (l1 ++ textL x.nm) ∧ Wk X3 X p → Calls Tryd.prog 61 #[.pointer (some ⟨p, 0, none⟩), .int .i64 x.fm] X fun e Y => e = .returned (.tuple #[]) ∧ Y.cell? ⟨w.heap.size, 0, none⟩ = some (.pointer (some ⟨p, 0, none⟩)) ∧ Y.cell? ⟨W1.heap.size, 2, none⟩ = some (.int .i64 x.ln) ∧ Hid (Wr Y p B (l1 ++ textL x.nm ++ [x.fm]) ∧ Wk X3 Y p)) := hid_of fun X hX => (octet_z X p B _ hX.1 x.fm v2 v3 (by rw [List.length_append]; omega)).mono fun e Y hh => ⟨hh.1, (keep Y (hX.2.trans hh.2.2)).1, (keep Y (hX.2.trans hh.2.2)).2.2, hh.2.1, hX.2.trans hh.2.2⟩
        have T3 : Hid (∀ X, Wr X p B (l1 ++ textL x.nm ++ [x.fm]) ∧ Wk X3 X p → Calls Tryd.prog 62 #[.pointer (some ⟨p, 0, none⟩), .int .i64 x.ln] X fun e Y => e = .returned (.tuple #[]) ∧ Hid (Wr Y p B (l1 ++ varL x) ∧ Wk X3 Y p)) := hid_of fun X hX => (number_z X p B _ hX.1 x.ln v4 v5 (by rw [List.length_append, List.length_append]; simp; omega)).mono fun e Y hh => ⟨hh.1, by unfold varL; rw [← List.append_assoc, ← List.append_assoc]; exact hh.2.1, hX.2.trans hh.2.2⟩
        clear hA hsame keep e1 v1 v2 v3 v4 v5 hlen1
        gi_wp2_with (first
          | (refine ⟨trivial, ?_⟩; gi_at_call 57; refine (CallsIn.inRound _ (callsIn_wide.2 T1.out)).mono ?_; rintro e Y1 ⟨rfl, d1, d2, D1⟩)
          | (refine ⟨trivial, ?_⟩; gi_at_call 61; refine (CallsIn.inRound _ (callsIn_wide.2 (T2.out _ D1.out))).mono ?_; rintro e Y2 ⟨rfl, d3, d4, D2⟩)
          | (refine ⟨trivial, ?_⟩; gi_at_call 62; refine (CallsIn.inRound _ (callsIn_wide.2 (T3.out _ D2.out))).mono ?_; rintro e Y3 ⟨rfl, D3⟩))
        exact D3.out
      rintro e W2 ⟨hv, g1, g2⟩
      exact ⟨hv, (oL.keep g2).1.trans dL, (oD2.keep g2).1.trans dD2, S2.next g1 g2, (oD2.keep g2).2, (oL.keep g2).2, HK1.out.keep (kX.trans g2)⟩
    case done2 =>
      intro W3 ob2 ob3 hF3 hlo3 hnc3 hD3
      obtain ⟨S4, oD3, oL3, hM3⟩ := hF3
      have hb3 := HV.out.1.o1.1
      have S5 := S4.putObj oL3 (by omega) (by omega) (by omega) ob3
      have k7 := S5.b0.cell 0
      have k8 : (W3.putObj (V.heap.size + 1) ob3).cell? ⟨w.heap.size + 1, 3, none⟩ = some (.slice c.ps.a c.ps.n c.ps.c) := S5.b1.cell 3
      simp at k7
      have hxy := hXY.out
      have hyv := hYV.out
      have HS5 := hid_of S5
      have HM12 : Hid (Mk (W3.putObj (V.heap.size + 1) ob3) p X.heap.size ∧ Mk (W3.putObj (V.heap.size + 1) ob3) p V.heap.size) := hid_of ⟨hM3.putObj (by omega) oL3.2.1 _, hD3, oD3.putObj oL3.2.1 _⟩
      generalize W3.putObj (V.heap.size + 1) ob3 = Y3 at *
      clear S4 oD3 oL3 S5 hlo3 hnc3 hD3 hM3 hb3 hb1
      gi_wp2_with (refine ⟨trivial, ?_⟩; gi_at_call 63; refine (writtenP_in (n - 1) p c.ps _).mono ?_; rintro e w2 ⟨rfl, rfl⟩)
      have hpY3 := HS5.out.wr.plt
      obtain ⟨U, hU⟩ : ∃ U, U = (Y3.alloc (.cells #[.pointer (some ⟨p, 0, none⟩)] 73)).alloc (.cells #[.slice c.ps.a c.ps.n c.ps.c] 24) := ⟨_, rfl⟩
      have bU : Below Y3.heap.size Y3 U := by rw [hU]; go_grown
      obtain ⟨L3, hL3⟩ : ∃ L3, L3 = L2 ++ numL 4 (o.vs.length : Int) ++ sumL varL o.vs o.vs.length := ⟨_, rfl⟩
      rw [← hL3] at HS5
      have hL3b : L3.length ≤ 690004000 := by
        have := HM2.out o.vs.length (Nat.le_refl _)
        have := numL_len 4 (o.vs.length : Int)
        rw [hL3, List.length_append, List.length_append]; omega
      have SU : SI w U p B c L3 := HS5.out.next (HS5.out.wr.below bU) (Wk.below hpY3 bU)
      have bbw3 : BA U Y3.heap.size 73 #[.pointer (some ⟨p, 0, none⟩)] := by rw [hU]; exact (BA.new Y3 _ _).below ((Below.refl _ _).alloc (Nat.le_refl _) _)
      have bbr3 : BA U (Y3.heap.size + 1) 24 #[.slice c.ps.a c.ps.n c.ps.c] := by rw [hU, show Y3.heap.size + 1 = (Y3.alloc (.cells #[.pointer (some ⟨p, 0, none⟩)] 73)).heap.size by simp]; exact BA.new _ _ _
      have fbw3 : Off U p Y3.heap.size := by rw [hU]; exact (off_new HS5.out.wr _).below (HS5.out.wr.below ((Below.refl _ _).alloc (Nat.le_refl _) _)).plt ((Below.refl _ _).alloc (Nat.le_refl _) _)
      have fbr3 : Off U p (Y3.heap.size + 1) := by rw [hU, show Y3.heap.size + 1 = (Y3.alloc (.cells #[.pointer (some ⟨p, 0, none⟩)] 73)).heap.size by simp]; exact off_new (HS5.out.wr.below ((Below.refl _ _).alloc (Nat.le_refl _) _)) _
      rw [← hU]
      have mk12 : Mk U p X.heap.size ∧ Mk U p V.heap.size := ⟨HM12.out.1.keep (Wk.below hpY3 bU), HM12.out.2.keep (Wk.below hpY3 bU)⟩
      have hVY : Hid (V.heap.size < Y3.heap.size) := hid_of HM12.out.2.2.1
      have hYU : Hid (Y3.heap.size ≤ U.heap.size) := hid_of bU.size
      have HU := hid_of (And.intro SU (And.intro bbw3 (And.intro bbr3 (And.intro fbw3 fbr3))))
      have HK12 := hid_of mk12
      clear hU SU bbw3 bbr3 fbw3 fbr3 bU k7 k8 mk12 HM12
      refine range_outer rfl hn1 (gf := 85) (lb := #[.pointer (some ⟨Y3.heap.size, 0, none⟩), .pointer (some ⟨Y3.heap.size + 1, 0, none⟩)]) rfl trivial (enters_of Tryd.func85 (by kernel_rfl) rfl) (Fin := fun W2 => SI w W2 p B c (L3 ++ numL 4 (ls.length : Int) ++ sumL prcL ls ls.length) ∧ Off W2 p U.heap.size ∧ Off W2 p (U.heap.size + 1) ∧ Mk W2 p X.heap.size ∧ Mk W2 p V.heap.size) ?loop3 ?done3
      case loop3 =>
        intro fn _ r hrr
        obtain ⟨SX, bbw, bbr, fbw, fbr⟩ := HU.out
        obtain ⟨X1, hX1⟩ : ∃ X1, X1 = U.alloc (.deferred (some [])) := ⟨_, rfl⟩
        have hX1s : X1.heap.size = U.heap.size + 1 := by rw [hX1]; simp
        have b1 : Below U.heap.size U X1 := by rw [hX1]; exact (Below.refl _ _).alloc (Nat.le_refl _) _
        have wX1 : Wr X1 p B L3 := SX.wr.below b1
        have oD : Off X1 p U.heap.size := by rw [hX1]; exact off_new SX.wr _
        have dD : X1.heap[U.heap.size]? = some (.deferred (some [])) := by rw [hX1]; exact blk_new _ _
        rw [← hX1]
        obtain ⟨X2, hX2⟩ : ∃ X2, X2 = X1.alloc (.loop r) := ⟨_, rfl⟩
        have b2 : Below X1.heap.size X1 X2 := by rw [hX2]; exact (Below.refl _ _).alloc (Nat.le_refl _) _
        have b12 : Below U.heap.size U X2 := b1.trans (b2.mono (by omega))
        have wX2 : Wr X2 p B L3 := wX1.below b2
        have oL : Off X2 p (U.heap.size + 1) := by rw [hX2, ← hX1s]; exact off_new wX1 _
        have dL : X2.heap[U.heap.size + 1]? = some (.loop r) := by rw [hX2, ← hX1s]; exact blk_new _ _
        have kX := Wk.below SX.wr.plt b12
        have S2 : SI w X2 p B c L3 := SX.next wX2 kX
        have oD2 := oD.below wX1.plt b2
        have dD2 : X2.heap[U.heap.size]? = some (.deferred (some [])) := (b2.block _ (by omega)).trans dD
        rw [← hX2]
        have bw2 : BA X2 Y3.heap.size 73 #[.pointer (some ⟨p, 0, none⟩)] := bbw.below b12
        have br2 : BA X2 (Y3.heap.size + 1) 24 #[.slice c.ps.a c.ps.n c.ps.c] := bbr.below b12
        have rp2 : RdO X2 p 3 c.ps ls.length (flat pEnc ls) := HR.out.ps.later S2.wk
        refine (written_prc (n - 1) (by omega) (U.heap.size + 1) p B Y3.heap.size (Y3.heap.size + 1) L3 c.ps ls X2 wX2 rp2 prcL 0 bw2 (fbw.below SX.wr.plt b12) br2 (fbr.below SX.wr.plt b12) hpl (fun i hi => by have := HM3.out i hi; omega) ?hY3).mono ?_
        case hY3 =>
          intro i hi W1 hw1 hk1
          obtain ⟨v1, v2, v3, v4, v5⟩ := HPP.out _ (List.getElem_mem hi)
          have hmi := HM3.out i (by omega)
          have hnl := numL_len 4 (ls.length : Int)
          have hlen1 : (L3 ++ numL 4 (ls.length : Int) ++ sumL prcL ls i).length ≤ 699005000 := by rw [List.length_append, List.length_append]; omega
          have hro : RdO W1 p 5 ls[i].2 ls[i].1.ps.length (flat vEnc ls[i].1.ps) := (HR.out.pp _ (List.getElem_mem hi)).later (S2.wk.trans hk1)
          refine round_gen (n - 1 - 1) (U.heap.size + 1) p B w.heap.size _ _ 63 zeroP (pEnc ls[i]) W1 r rfl (by kernel_rfl) (by simp [pEnc, Value.oneCell']) hw1 ((oL.keep hk1).1.trans dL) (by rw [hrr]) (by rw [hrr]) (oL.keep hk1).2 ((S2.o0.keep hk1).1.trans S2.b0) (S2.o0.keep hk1).2 (by have := SX.o0.1; omega) (by rw [hrr]; rfl) ?_
          intro K Z hst hk
          have hn3 : 1 ≤ n - 1 - 1 := by omega
          have HK := hid_of hk
          have HRO := hid_of hro
          have HLO := hid_of ((oL.keep hk1).1.trans dL)
          have HW1 := hid_of hw1.plt
          generalize L3 ++ numL 4 (ls.length : Int) ++ sumL prcL ls i = l1 at *
          generalize ls[i] = x at *
          unfold zeroP at hst
          clear hk hmi hnl hk1 hw1 bw2 br2 S2 oD oD2 dD dD2 dL oL wX1 wX2 kX b1 b2 b12 SX bbw bbr fbw fbr hL3b hL3 hL2b hL2 rp2 hro
          subst hrr
          have e1 := textL_len x.1.nm
          unfold pEnc at hst HK ⊢
          gi_wp2
          refine HK.out _ ?_
          clear HK hst
          intro X3 hA hsame
          have hsz := hA.ox.1
          have hRX : RdO X3 p 5 x.2 x.1.ps.length (flat vEnc x.1.ps) := HRO.out.past (by omega) HLO.out (Ne.symm hA.ol.2.1) HW1.out (by omega) hsame
          have A0 := hid_of hA.two
          clear hA hsame HRO HLO HW1
          have c1 : X3.cell? ⟨w.heap.size, 0, none⟩ = some (.pointer (some ⟨p, 0, none⟩)) := A0.out.bp.cell 0
          have c2 : X3.cell? ⟨W1.heap.size, 0, none⟩ = some (.string x.1.nm) := A0.out.bx.cell 0
          have T1 : Hid (Calls Tryd.prog 57 #[.pointer (some ⟨p, 0, none⟩), .string x.1.nm] X3 fun e Y => e = .returned (.tuple #[]) ∧ Y.cell? ⟨w.heap.size, 0, none⟩ = some (.pointer (some ⟨p, 0, none⟩)) ∧ Y.cell? ⟨W1.heap.size, 1, none⟩ = some (.slice x.2.a x.2.n x.2.c) ∧ Hid (Wr Y p B (l1 ++ textL x.1.nm) ∧ Wk X3 Y p)) := hid_of ((text_z X3 p B l1 A0.out.wr x.1.nm v1 (by omega)).mono fun e Y hh => ⟨hh.1, (A0.out.next hh.2.1 hh.2.2).bp.cell 0, (A0.out.next hh.2.1 hh.2.2).bx.cell 1, hh.2⟩)
          have HRX := hid_of hRX
          have HV2 := hid_of v2
          clear hRX
          gi_wp2_with (first
            | (refine ⟨trivial, ?_⟩; gi_at_call 57; refine (CallsIn.inRound _ (callsIn_wide.2 T1.out)).mono ?_; rintro e Y1 ⟨rfl, d1, d2, D1⟩)
            | (refine ⟨trivial, ?_⟩; gi_at_call 60; refine (CallsIn.inRound _ (writtenV_in (n - 1 - 1 - 1) p x.2 _)).mono ?_; rintro e Y2 ⟨rfl, rfl⟩))
          clear T1 d1 d2 c1 c2
          have hp1 := D1.out.1.plt
          obtain ⟨V1, hV1⟩ : ∃ V1, V1 = (Y1.alloc (.cells #[.pointer (some ⟨p, 0, none⟩)] 73)).alloc (.cells #[.slice x.2.a x.2.n x.2.c] 23) := ⟨_, rfl⟩
          have bV1 : Below Y1.heap.size Y1 V1 := by rw [hV1]; go_grown
          have kV1 : Wk X3 V1 p := D1.out.2.trans (Wk.below hp1 bV1)
          have A1 : At2 V1 p B W1.heap.size w.heap.size (U.heap.size + 1) 63 (pEnc x) (l1 ++ textL x.1.nm) := A0.out.next (D1.out.1.below bV1) kV1
          have bbw4 : BA V1 Y1.heap.size 73 #[.pointer (some ⟨p, 0, none⟩)] := by rw [hV1]; exact (BA.new Y1 _ _).below ((Below.refl _ _).alloc (Nat.le_refl _) _)
          have bbr4 : BA V1 (Y1.heap.size + 1) 23 #[.slice x.2.a x.2.n x.2.c] := by rw [hV1, show Y1.heap.size + 1 = (Y1.alloc (.cells #[.pointer (some ⟨p, 0, none⟩)] 73)).heap.size by simp]; exact BA.new _ _ _
          have fbw4 : Off V1 p Y1.heap.size := by rw [hV1]; exact (off_new D1.out.1 _).below (D1.out.1.below ((Below.refl _ _).alloc (Nat.le_refl _) _)).plt ((Below.refl _ _).alloc (Nat.le_refl _) _)
          have fbr4 : Off V1 p (Y1.heap.size + 1) := by rw [hV1, show Y1.heap.size + 1 = (Y1.alloc (.cells #[.pointer (some ⟨p, 0, none⟩)] 73)).heap.size by simp]; exact off_new (D1.out.1.below ((Below.refl _ _).alloc (Nat.le_refl _) _)) _
          rw [← hV1]
          have hX3V : Hid (X3.heap.size ≤ V1.heap.size) := hid_of kV1.size
          have HV1 := hid_of (And.intro A1 (And.intro kV1 (And.intro bbw4 (And.intro bbr4 (And.intro fbw4 fbr4)))))
          obtain ⟨rb, hrb⟩ := A1.lp
          clear hV1 A1 kV1 bbw4 bbr4 fbw4 fbr4 bV1 D1 A0
          refine range_inner (l₀ := U.heap.size + 1) rfl hrb hn3 (gf := 83) (lb := #[.pointer (some ⟨Y1.heap.size, 0, none⟩), .pointer (some ⟨Y1.heap.size + 1, 0, none⟩)]) rfl trivial (enters_of Tryd.func83 (by kernel_rfl) rfl) (Fin := fun W2 => At2 W2 p B W1.heap.size w.heap.size (U.heap.size + 1) 63 (pEnc x) (l1 ++ textL x.1.nm ++ numL 4 (x.1.ps.length : Int) ++ sumL parL x.1.ps x.1.ps.length) ∧ Wk X3 W2 p ∧ Off W2 p V1.heap.size) ?loop4 ?done4
          case loop4 =>
            intro fn2 _ r2 hrr2
            obtain ⟨A1, kV1, bbw4, bbr4, fbw4, fbr4⟩ := HV1.out
            obtain ⟨X4, hX4⟩ : ∃ X4, X4 = V1.alloc (.loop r2) := ⟨_, rfl⟩
            have b4 : Below V1.heap.size V1 X4 := by rw [hX4]; exact (Below.refl _ _).alloc (Nat.le_refl _) _
            have wX4 := A1.wr.below b4
            have oL4 : Off X4 p V1.heap.size := by rw [hX4]; exact off_new A1.wr _
            have dL4 : X4.heap[V1.heap.size]? = some (.loop r2) := by rw [hX4]; exact blk_new _ _
            have kX4 := Wk.below A1.wr.plt b4
            have A4 := A1.next wX4 kX4
            rw [← hX4]
            refine (CallsIn.inRound _ (written_var (n - 1 - 1 - 1) (by omega) V1.heap.size p B Y1.heap.size (Y1.heap.size + 1) (l1 ++ textL x.1.nm) x.2 x.1.ps X4 wX4 (HRX.out.later (kV1.trans kX4)) parL 0 (bbw4.below b4) (fbw4.below A1.wr.plt b4) (bbr4.below b4) (fbr4.below A1.wr.plt b4) HV2.out (fun i hi => by have := sumL_par x.1.ps i hi; have := HV2.out; rw [List.length_append]; omega) ?hY4)).mono ?_
            case hY4 =>
              intro i hi W5 hw5 hk5
              obtain ⟨f0, f1⟩ := v5 _ (List.getElem_mem hi)
              have hlen5 : (l1 ++ textL x.1.nm ++ numL 4 (x.1.ps.length : Int) ++ sumL parL x.1.ps i).length ≤ 699010000 := by
                have := sumL_par x.1.ps i (by omega)
                have := HV2.out
                have := numL_len 4 (x.1.ps.length : Int)
                rw [List.length_append, List.length_append, List.length_append]; omega
              have hne5 : w.heap.size ≠ V1.heap.size := by have := A1.o0.1; omega
              refine round_gen (n - 1 - 1 - 1 - 1) V1.heap.size p B w.heap.size _ _ 69 zeroV (vEnc x.1.ps[i]) W5 r2 rfl (by kernel_rfl) (by simp [vEnc, Value.oneCell']) hw5 ((oL4.keep hk5).1.trans dL4) (by rw [hrr2]) (by rw [hrr2]) (oL4.keep hk5).2 ((A4.o0.keep hk5).1.trans A4.bp) (A4.o0.keep hk5).2 hne5 (by rw [hrr2]; rfl) ?_
              intro K Z hst hk
              have hn5 : 1 ≤ n - 1 - 1 - 1 - 1 := by omega
              have HK := hid_of hk
              generalize l1 ++ textL x.1.nm ++ numL 4 (x.1.ps.length : Int) ++ sumL parL x.1.ps i = l5 at *
              generalize x.1.ps[i] = y at *
              unfold zeroV at hst
              clear hk hk5 hw5 A4 kX4 dL4 oL4 wX4 b4 hX4 A1 kV1 bbw4 bbr4 fbw4 fbr4 hne5 hrb hX3V HV1 hp1 hsz e1 hlen1 v1 v2 v3 v4 v5
              subst hrr2
              have LV : Hid (∀ X, BA X W5.heap.size 69 (vEnc y) → (ldT 69 ⟨W5.heap.size, 0, none⟩).run Tryd.prog X = .ok (.agg (vEnc y)) X) := hid_of fun X hX => ldT_run hX Tryd.underlying69 rfl (by kernel_rfl)
              unfold vEnc at hst HK ⊢
              gi_wp2
              refine HK.out _ ?_
              clear HK hst
              intro X6 hA6 hsame6
              have A6 := hid_of hA6.two
              clear hA6 hsame6
              have c1 : X6.cell? ⟨w.heap.size, 0, none⟩ = some (.pointer (some ⟨p, 0, none⟩)) := A6.out.bp.cell 0
              have c2 : X6.cell? ⟨W5.heap.size, 1, none⟩ = some (.int .i64 y.fm) := A6.out.bx.cell 1
              have T1 : Hid (Calls Tryd.prog 61 #[.pointer (some ⟨p, 0, none⟩), .int .i64 y.fm] X6 fun e Y => e = .returned (.tuple #[]) ∧ Y.cell? ⟨w.heap.size, 0, none⟩ = some (.pointer (some ⟨p, 0, none⟩)) ∧ Y.cell? ⟨W5.heap.size, 0, none⟩ = some (.string y.nm) ∧ (ldT 69 ⟨W5.heap.size, 0, none⟩).run Tryd.prog Y = .ok (.agg (vEnc y)) Y ∧ Hid (Wr Y p B (l5 ++ [y.fm]) ∧ Wk X6 Y p)) := hid_of ((octet_z X6 p B l5 A6.out.wr y.fm f0 f1 (by omega)).mono fun e Y hh => ⟨hh.1, (A6.out.next hh.2.1 hh.2.2).bp.cell 0, (A6.out.next hh.2.1 hh.2.2).bx.cell 0, LV.out _ (A6.out.next hh.2.1 hh.2.2).bx, hh.2⟩)
              gi_wp2_with (first
                | (refine ⟨trivial, ?_⟩; gi_at_call 61; refine (CallsIn.inRound _ (callsIn_wide.2 T1.out)).mono ?_; rintro e Y6 ⟨rfl, d1, d2, d3, D6⟩))
              have D7 : Hid (At2 Y6.drew p B W5.heap.size w.heap.size V1.heap.size 69 (vEnc y) (l5 ++ [y.fm]) ∧ Wk X6 Y6.drew p) := by
                have kd := D6.out.2.trans (Wk.below D6.out.1.plt (bl_drew Y6))
                exact hid_of ⟨A6.out.next (D6.out.1.below (bl_drew Y6)) kd, kd⟩
              have d4 := LV.out _ D7.out.1.bx
              have GB : Hid (Calls Tryd.prog 64 #[.agg (vEnc y)] Y6.drew fun e Y => e = .returned (.int .i64 (bitsI y)) ∧ Y.cell? ⟨w.heap.size, 0, none⟩ = some (.pointer (some ⟨p, 0, none⟩)) ∧ Hid (Wr Y p B (l5 ++ [y.fm]) ∧ Wk X6 Y p)) := hid_of ((bitsOf_any y Y6.drew).mono fun e Y hh => by
                have kd := Wk.below D7.out.1.wr.plt hh.2
                exact ⟨hh.1, (D7.out.1.next (D7.out.1.wr.below hh.2) kd).bp.cell 0, hid_of ⟨D7.out.1.wr.below hh.2, D7.out.2.trans kd⟩⟩)
              have bb := bitsI_bd y
              have GO : Hid (∀ X, Wr X p B (l5 ++ [y.fm]) ∧ Wk X6 X p → Calls Tryd.prog 61 #[.pointer (some ⟨p, 0, none⟩), .int .i64 (bitsI y)] X fun e Y => e = .returned (.tuple #[]) ∧ Hid (Wr Y p B (l5 ++ parL y) ∧ Wk X6 Y p)) := hid_of fun X hX => (octet_z X p B _ hX.1 (bitsI y) (by omega) (by omega) (by rw [List.length_append]; simp; omega)).mono fun e Y hh => ⟨hh.1, by have q := hh.2.1; unfold parL; rw [List.append_assoc] at q; exact q, hX.2.trans hh.2.2⟩
              clear T1 d3 c1 c2 A6 bb hlen5 f0 f1 D7 LV
              unfold vEnc at GB d4
              generalize bitsI y = bt at *
              gi_region_with (first
                | (have hx := D8; clear hx; refine ⟨trivial, ?_⟩; gi_at_call 61; refine (CallsIn.inRound _ (callsIn_wide.2 (GO.out _ D8.out))).mono ?_; rintro e Y9 ⟨rfl, D9⟩)
                | (refine ⟨trivial, ?_⟩; gi_at_call 64; refine (CallsIn.inRound _ (callsIn_wide.2 GB.out)).mono ?_; rintro e Y8 ⟨rfl, d8, D8⟩))
              all_goals exact D9.out
            rintro e W2 ⟨hv, g1, g2⟩
            exact ⟨hv, (oL4.keep g2).1.trans dL4, A4.next g1 g2, kV1.trans (kX4.trans g2), (oL4.keep g2).2⟩
          case done4 =>
            intro W6 o6 o7 hF6 hlo6 hnc6
            obtain ⟨A6, k6, oL6⟩ := hF6
            have k7 := k6.putNew oL6 hX3V.out o7
            have w7 := A6.wr.putObj oL6.2.1 oL6.2.2 o7
            have c1 : (W6.putObj V1.heap.size o7).cell? ⟨w.heap.size, 0, none⟩ = some (.pointer (some ⟨p, 0, none⟩)) := by
              have h9 : w.heap.size ≠ V1.heap.size := Nat.ne_of_lt HV1.out.1.o0.1
              exact (World.cell?_of_block (a := ⟨w.heap.size, 0, none⟩) (World.putObj_heap_other h9)).trans (A6.bp.cell 0)
            have c2 : (W6.putObj V1.heap.size o7).cell? ⟨W1.heap.size, 2, none⟩ = some (.int .i64 x.1.rs) := by
              have h9 : W1.heap.size ≠ V1.heap.size := Nat.ne_of_lt HV1.out.1.ox.1
              exact (World.cell?_of_block (a := ⟨W1.heap.size, 2, none⟩) (World.putObj_heap_other h9)).trans (A6.bx.cell 2)
            have hlen6 : (l1 ++ textL x.1.nm ++ numL 4 (x.1.ps.length : Int) ++ sumL parL x.1.ps x.1.ps.length).length ≤ 699010000 := by
              have := sumL_par x.1.ps _ (Nat.le_refl _)
              have := HV2.out
              have := numL_len 4 (x.1.ps.length : Int)
              rw [List.length_append, List.length_append, List.length_append]; omega
            have T6 : Hid (Calls Tryd.prog 61 #[.pointer (some ⟨p, 0, none⟩), .int .i64 x.1.rs] (W6.putObj V1.heap.size o7) fun e Y => e = .returned (.tuple #[]) ∧ Hid (Wr Y p B (l1 ++ prcL x) ∧ Wk X3 Y p)) := hid_of ((octet_z _ p B _ w7 x.1.rs v3 v4 (by omega)).mono fun e Y hh => ⟨hh.1, by have q := hh.2.1; unfold prcL; simp only [← List.append_assoc]; exact q, k7.trans hh.2.2⟩)
            generalize W6.putObj V1.heap.size o7 = Y7 at *
            clear A6 k6 oL6 k7 w7 hlen6 hlo6 hnc6 HV1 hX3V hrb HRX hp1 hsz e1 hlen1 v1 v2 v3 v4 v5
            gi_wp2_with (refine ⟨trivial, ?_⟩; gi_at_call 61; refine (CallsIn.inRound _ (callsIn_wide.2 T6.out)).mono ?_; rintro e Y8 ⟨rfl, D8⟩)
            exact D8.out
        rintro e W2 ⟨hv, g1, g2⟩
        exact ⟨hv, (oL.keep g2).1.trans dL, (oD2.keep g2).1.trans dD2, S2.next g1 g2, (oD2.keep g2).2, (oL.keep g2).2, HK12.out.1.keep (kX.trans g2), HK12.out.2.keep (kX.trans g2)⟩
      case done3 =>
        intro W4 ob4 ob5 hF4 hlo4 hnc4 hD4
        obtain ⟨S6, oD4, oL4, hM4, hM5⟩ := hF4
        have hb4 := HU.out.1.o1.1
        have hvy := hVY.out
        have hyu := hYU.out
        have S7 := S6.putObj oL4 (by omega) (by omega) (by omega) ob5
        have hxy := hXY.out
        have hyv := hYV.out
        have M1 : Mk (W4.putObj (U.heap.size + 1) ob5) p X.heap.size := hM4.putObj (by omega) oL4.2.1 _
        have M2 : Mk (W4.putObj (U.heap.size + 1) ob5) p V.heap.size := hM5.putObj (by omega) oL4.2.1 _
        have M3 : Mk (W4.putObj (U.heap.size + 1) ob5) p U.heap.size := ⟨hD4, oD4.putObj oL4.2.1 _⟩
        have eL : l ++ symL o ls = L3 ++ numL 4 (ls.length : Int) ++ sumL prcL ls ls.length := by rw [hL3, hL2]; unfold symL; simp only [List.append_assoc]
        generalize W4.putObj (U.heap.size + 1) ob5 = Y4 at *
        clear S6 oD4 oL4 hlo4 hnc4 hD4 hM4 hM5
        gi_wp2
        have q1 : Mk (Y4.putObj U.heap.size (.deferred none)) p V.heap.size := M2.putObj (by omega) M3.2.2.1 _
        have q0 : Mk (Y4.putObj U.heap.size (.deferred none)) p X.heap.size := M1.putObj (by omega) M3.2.2.1 _
        have q2 := q0.putObj (k := V.heap.size) (by omega) M2.2.2.1 (.deferred none)
        refine ⟨by simp, .inl ⟨_, _, rfl, run_takeDeferred M3.1, by simp, .inl ⟨_, _, rfl, run_takeDeferred q1.1, by simp, .inl ⟨_, _, rfl, run_takeDeferred q2.1, ?_⟩⟩⟩⟩
        have h1 : Wr (((Y4.putObj U.heap.size (.deferred none)).putObj V.heap.size (.deferred none)).putObj X.heap.size (.deferred none)) p B (L3 ++ numL 4 (ls.length : Int) ++ sumL prcL ls ls.length) := ((S7.wr.putObj M3.2.2.1 M3.2.2.2 _).putObj q1.2.2.1 q1.2.2.2 _).putObj q2.2.2.1 q2.2.2.2 _
        have hxx := HX.out.1.o1.1
        have hvv2 := HV.out.1.o1.1
        have h2 : Wk w (((Y4.putObj U.heap.size (.deferred none)).putObj V.heap.size (.deferred none)).putObj X.heap.size (.deferred none)) p := ((S7.wk.putNew M3.2 (by omega) _).putNew q1.2 (by omega) _).putNew q2.2 (by omega) _
        rw [← eL] at h1
        exact ⟨_, results_none rfl _ _ _, rfl, h1, h2⟩
end Go.Proofs.YtcppgpcgbggdcaaDoor
