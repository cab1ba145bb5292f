/-
  Layer 7, the document's side: what stands ahead of descriptors is read: the walk.
-/
import Derived.Test.YtepgifapepaheaaDra
namespace Go.Proofs.Ytepgifapepaheaa
set_option linter.unusedVariables false
set_option linter.unusedSimpArgs false
open Go.ChangeShapes Go.WideShapes Go.ChangeAt Go.RowKit

attribute [local go_sem ↓] loadO_seal storeO_seal appN_seal
set_option maxHeartbeats 40000000 in
set_option maxRecDepth 20000 in
theorem rfirst_of (w : World) (b len cap : Nat) (a : Option Addr) (f : Nat → Int) (s : St) (h : DRd w b a len cap f s) (hbl : b < w.heap.size) : Calls Try.prog 16 #[.pointer (some ⟨b, 0, none⟩)] w fun e w' => ∃ c o, e = .returned (.agg (Oc.cells c)) ∧ ObAt w' (w.heap.size + 2) c o ∧ ((firstS f len s).2.st = false → o = (firstS f len s).1) ∧ DRd w' b a len cap f (firstS f len s).2 ∧ w.grownBy w' (some b) ∧ (c.ds = ⟨none, 0, 0⟩ ∧ c.fx = ⟨none, 0, 0⟩ ∧ o.descs = [] ∧ o.fixes = []) := by
  have HA : Hid (∀ x, a = some x → x.block < w.heap.size) := hid_of fun x hx => (h.ap x hx).2
  have S0 := hid_of (W2_ss w b len cap a f s h)
  have NU : Hid (∀ X s most, DRd X b a len cap f s → 0 ≤ most → most ≤ 4294967295 → Calls Try.prog 17 #[.pointer (some ⟨b, 0, none⟩), .int .i64 most] X _) := fun X s most hX m0 m1 => rnumber_of X b len cap a f s hX most m0 m1
  have TX : Hid (∀ X s most, DRd X b a len cap f s → 0 ≤ most → most ≤ 4294967295 → Calls Try.prog 48 #[.pointer (some ⟨b, 0, none⟩), .int .i64 most] X _) := fun X s most hX m0 m1 => rtext_of X b len cap a f s hX most (by omega) (by omega)
  have WD : Hid (∀ X s, DRd X b a len cap f s → Calls Try.prog 49 #[.pointer (some ⟨b, 0, none⟩)] X _) := fun X s hX => rword_of X b len cap a f s hX
  have ON : Hid (∀ X s most, DRd X b a len cap f s → 0 ≤ most → most ≤ 255 → Calls Try.prog 18 #[.pointer (some ⟨b, 0, none⟩), .int .u8 most] X _) := fun X s most hX m0 m1 => rone_of X b len cap a f s hX most m0 m1
  unfold firstS
  simp only
  generalize e0 : textS f len 20 s = x0
  generalize e1 : wordS f len x0.2 = x1
  generalize e2 : rowS f len 16 (impS f len) x1.2 = x2
  generalize e3 : rowS f len 65536 (wordS f len) x2.2 = x3
  generalize e4 : rowS f len 100 (prcS f len) x3.2 = x4
  generalize e5 : numS f len 4294967295 x4.2 = x5
  generalize e6 : rowS f len 200 (numS f len 4294967295) x5.2 = x6
  generalize e7 : rowS f len 200 (numS f len 4294967295) x6.2 = x7
  generalize e8 : rowS f len 200 (textS f len 200) x7.2 = x8
  have E0 := hid_of e0
  clear e0
  have E1 := hid_of e1
  clear e1
  have E2 := hid_of e2
  clear e2
  have E3 := hid_of e3
  clear e3
  have E4 := hid_of e4
  clear e4
  have E5 := hid_of e5
  clear e5
  have E6 := hid_of e6
  clear e6
  have E7 := hid_of e7
  clear e7
  have E8 := hid_of e8
  clear e8
  have T0 : Hid (∀ X, DRd X b a len cap f s → Calls Try.prog 48 #[.pointer (some ⟨b, 0, none⟩), .int .i64 20] X (PostV X b a len cap f (.string x0.1) x0.2)) := fun X hX => by rw [← E0.out]; exact rtext_of X b len cap a f s hX 20 (by omega) (by omega)
  have T1 : Hid (∀ X, DRd X b a len cap f x0.2 → Calls Try.prog 49 #[.pointer (some ⟨b, 0, none⟩)] X (PostV X b a len cap f (.int .u32 x1.1) x1.2)) := fun X hX => by rw [← E1.out]; exact rword_of X b len cap a f _ hX
  have T5 : Hid (∀ X, DRd X b a len cap f x4.2 → Calls Try.prog 17 #[.pointer (some ⟨b, 0, none⟩), .int .i64 4294967295] X (PostV X b a len cap f (.int .i64 x5.1) x5.2)) := fun X hX => by rw [← E5.out]; exact rnumber_of X b len cap a f _ hX 4294967295 (by omega) (by omega)
  unfold W2 at S0
  simp only [zeroO] at S0
  clear h
  go_enter Try.func16, Try.ntmps16
  go_upto_block 0 with (first
    | (have hz := S2; clear hz; go_at_call 17; refine (rnum_nat _ b len cap a f x1.2 S2.out.rd 16 (by omega) (by omega)).mono ?_; rintro e w3 ⟨nn, rfl, HN⟩; have S3 := hid_of (S2.out.read hbl HA.out HN.out.1 HN.out.2.1))
    | (have hz := S1; clear hz; go_at_call 49; refine (T1.out _ S1.out.rd).mono ?_; rintro e w2 ⟨rfl, hr, hg⟩; obtain ⟨kc1, kf1, S2⟩ := (S1.out.read hbl HA.out hr hg).put (c' := { Oc.zero with nm := x0.1, key := x1.1 }) (j := 1) (v := .int .u32 x1.1) hbl HA.out rfl (Go.Joins.block_setCell (S1.out.read hbl HA.out hr hg).bx _) ((S1.out.read hbl HA.out hr hg).oo.key_ x1.1); clear hr hg)
    | (go_at_call 48; refine (T0.out _ S0.out.rd).mono ?_; rintro e w1 ⟨rfl, hr, hg⟩; obtain ⟨kc0, kf0, S1⟩ := (S0.out.read hbl HA.out hr hg).put (c' := { Oc.zero with nm := x0.1 }) (j := 0) (v := .string x0.1) hbl HA.out rfl (Go.Joins.block_setCell (S0.out.read hbl HA.out hr hg).bx _) ((S0.out.read hbl HA.out hr hg).oo.nm_ x0.1); clear hr hg))
  clear S0 S1 S2 kc0 kf0 kc1 kf1 T0 T1
  have PL := hid_of (S3.out.pl hbl HA.out)
  have LB := hid_of HN.out.2.2
  have nb : nn ≤ 16 := by have := HN.out.2.2.2; omega
  clear HN
  go_cut [5] (fun s_ X => ∃ acc sl, Hid (SS w X b len cap a f { ({ Oc.zero with nm := x0.1, key := x1.1 } : Oc) with im := sl } { (⟨x0.1, x1.1, [], [], [], [], [], 0, [], [], [], [], []⟩ : Ob) with imps := acc } x2.2 ∧ (x2.2.st = false → acc = x2.1)))
  case first =>
    obtain ⟨X0, hX0⟩ : ∃ X0, X0 = w3 := ⟨_, rfl⟩
    rw [← hX0] at S3 PL ⊢
    clear hX0
    have RR : Hid (x2 = loopS (impS f len) nn [] (numS f len 16 x1.2).2) := hid_of (by rw [← E2.out, LB.out.1]; rfl)
    have LS : Hid (Lp (impS f len) x2 nn [] (numS f len 16 x1.2).2) := hid_of (by rw [RR.out]; exact Lp.start _ _ _ fun e => by rw [LB.out.1, num_zero e]; rfl)
    clear RR LB
    generalize (numS f len 16 x1.2).2 = sa at *
    have L0 := hid_of (And.intro S3.out.li (own_nil X0 X0.heap.size 59 2))
    go_wp2_with fail
    go_loopg [5] nn (fun gf s_ wx => ∃ (i : Nat) (acc : List (ByteArray × Int)) (s : St) (sl : Sl), s_ = .int .i64 (i : Int) ∧ i + gf = nn ∧ Hid (LI X0 wx b len cap a f (w.heap.size + 1) w.heap.size { ({ Oc.zero with nm := x0.1, key := x1.1 } : Oc) with im := sl } s ∧ wx.ownsRow X0.heap.size 59 2 (.slice sl.a sl.n sl.c) acc.length (flat iEnc acc) ∧ Lp (impS f len) x2 gf acc s ∧ acc.length = i))
    case atStart => exact ⟨0, [], sa, ⟨none, 0, 0⟩, rfl, by omega, L0.out.1, L0.out.2, LS.out, rfl⟩
    case round =>
      clear LS L0
      obtain ⟨i, acc, s, sl, rfl, hi, HL⟩ := hrel
      have cb := HL.out.1.rd.c2
      have FIN : Hid (gk = 0 ∨ s.st = true → ∃ acc sl, Hid (SS w wr b len cap a f { ({ Oc.zero with nm := x0.1, key := x1.1 } : Oc) with im := sl } { (⟨x0.1, x1.1, [], [], [], [], [], 0, [], [], [], [], []⟩ : Ob) with imps := acc } x2.2 ∧ (x2.2.st = false → acc = x2.1))) := fun hm => by
        obtain ⟨l1, l2, l3, l4⟩ := HL.out
        obtain ⟨f1, f2⟩ := l3.fin hm
        refine ⟨acc, sl, ?_, fun e => (f2 (by rw [← f1]; exact e)).symm⟩
        rw [f1]
        exact S3.out.join hbl l1 (fun q => q.im_ sl acc (own_base l2 (by have := S3.out.bx.lt; omega)))
      by_cases hlt : i < nn
      rotate_left
      · have d1 : decide ((i : Int) < (nn : Int)) = false := decide_eq_false (by omega)
        have FF := hid_of (FIN.out (.inl (by omega)))
        clear FIN HL
        go_wp2
        go_meet
        exact FF.out
      have d1 : decide ((i : Int) < (nn : Int)) = true := decide_eq_true (by omega)
      obtain ⟨p, st⟩ := s
      cases st
      rotate_left
      · have d2 : decide ((p : Int) < 0) = false := decide_eq_false (by omega)
        rw [bad_stuck] at cb
        have FF := hid_of (FIN.out (.inr rfl))
        clear FIN HL
        go_wp2
        go_meet
        exact FF.out
      rw [bad_live] at cb
      obtain ⟨g', rfl⟩ : ∃ g', gk = g' + 1 := ⟨gk - 1, by omega⟩
      clear FIN
      have ML := hid_of (MI.new HL.out.1 HL.out.2.1 #[.string ⟨#[]⟩, .int .u32 0] 59)
      have NX := hid_of (And.intro (HL.out.2.2.1.next rfl) HL.out.2.2.2)
      have TR : Hid (∀ X, DRd X b a len cap f ⟨p, false⟩ → Calls Try.prog 48 #[.pointer (some ⟨b, 0, none⟩), .int .i64 20] X (PostV X b a len cap f (.string (textS f len 20 ⟨p, false⟩).1) (textS f len 20 ⟨p, false⟩).2)) := fun X hX => rtext_of X b len cap a f _ hX 20 (by omega) (by omega)
      have WR : Hid (∀ X, DRd X b a len cap f (textS f len 20 ⟨p, false⟩).2 → Calls Try.prog 49 #[.pointer (some ⟨b, 0, none⟩)] X (PostV X b a len cap f (.int .u32 (wordS f len (textS f len 20 ⟨p, false⟩).2).1) (wordS f len (textS f len 20 ⟨p, false⟩).2).2)) := fun X hX => rword_of X b len cap a f _ hX
      have hI : impS f len ⟨p, false⟩ = (((textS f len 20 ⟨p, false⟩).1, (wordS f len (textS f len 20 ⟨p, false⟩).2).1), (wordS f len (textS f len 20 ⟨p, false⟩).2).2) := rfl
      rw [hI] at NX
      clear hI HL
      obtain ⟨D, hD⟩ : ∃ D, D = wr.heap.size := ⟨_, rfl⟩
      generalize textS f len 20 ⟨p, false⟩ = t1 at *
      generalize wordS f len t1.2 = t2 at *
      have AP : Hid (∀ X, MI X0 X b len cap a f (w.heap.size + 1) w.heap.size { ({ Oc.zero with nm := x0.1, key := x1.1 } : Oc) with im := sl } t2.2 wr.heap.size #[.string t1.1, .int .u32 t2.1] 59 59 2 (.slice sl.a sl.n sl.c) acc.length (flat iEnc acc) → _) := fun X hX => by
        obtain ⟨i0, hi0, hz0, hz1, hz2⟩ := info_parts info_imp3
        exact hX.li.app (j := 2) (c' := fun s' => { ({ Oc.zero with nm := x0.1, key := x1.1 } : Oc) with im := s' }) PL.out Try.underlying25 hi0 hz0 hz1 hz2 rfl (by omega) (by omega) #[.string t1.1, .int .u32 t2.1] rfl (by intro u hu; simp at hu; rcases hu with rfl | rfl <;> rfl) hX.ow (by have := NX.out.2; omega) rfl (fun Y s' hY => Go.Joins.block_setCell hY _)
      clear hD D
      go_wp2_with (first
        | (have hz := M4; clear hz; go_at_call 49; refine (WR.out _ M4.out.li.rd).mono ?_; rintro e w5 ⟨rfl, hr, hg⟩; have M5 := hid_of (M4.out.read PL.out hr hg); have c5 : w5.cell? ⟨wr.heap.size, 1, none⟩ = some (.int .u32 0) := M5.out.cell 1; have z5 := M5.out.fz 1; have M6 : Hid (MI X0 (w5.setCell ⟨wr.heap.size, 1, none⟩ (.int .u32 t2.1)) b len cap a f (w.heap.size + 1) w.heap.size _ t2.2 wr.heap.size #[.string t1.1, .int .u32 t2.1] 59 59 2 (.slice sl.a sl.n sl.c) acc.length (flat iEnc acc)) := M5.out.set PL.out 1 _; have c6 : (w5.setCell ⟨wr.heap.size, 1, none⟩ (.int .u32 t2.1)).cell? ⟨wr.heap.size, 0, none⟩ = some (.string t1.1) := M6.out.cell 0; have c7 : (w5.setCell ⟨wr.heap.size, 1, none⟩ (.int .u32 t2.1)).cell? ⟨wr.heap.size, 1, none⟩ = some (.int .u32 t2.1) := M6.out.cell 1; obtain ⟨s', Y, hrun, cY, fY, cX, cA, HNX⟩ := AP.out _ M6.out; rw [show (w5.setCell ⟨wr.heap.size, 1, none⟩ (.int .u32 t2.1)).heap.size = w5.heap.size from (by simp)] at hrun; clear hr hg)
        | (go_at_call 48; refine (TR.out _ ML.out.li.rd).mono ?_; rintro e w4 ⟨rfl, hr, hg⟩; have M3 := hid_of (ML.out.read PL.out hr hg); have c3 : w4.cell? ⟨wr.heap.size, 0, none⟩ = some (.string ⟨#[]⟩) := M3.out.cell 0; have z3 := M3.out.fz 0; have M4 : Hid (MI X0 (w4.setCell ⟨wr.heap.size, 0, none⟩ (.string t1.1)) b len cap a f (w.heap.size + 1) w.heap.size _ t1.2 wr.heap.size #[.string t1.1, .int .u32 0] 59 59 2 (.slice sl.a sl.n sl.c) acc.length (flat iEnc acc)) := M3.out.set PL.out 0 _; clear hr hg))
      go_roundg g'
      case measure => omega
      case rel => exact ⟨i + 1, acc ++ [(t1.1, t2.1)], t2.2, s', by simp, by omega, HNX.out.1, by rw [List.length_append, flat_app]; exact HNX.out.2.1, NX.out.1, by rw [List.length_append, NX.out.2]; rfl⟩
  case rest =>
    obtain ⟨acc2, sl2, H2⟩ := hcut
    have A2 := hid_of H2.out.2
    have S2r := hid_of H2.out.1
    clear H2
    go_upto_block 2 with (go_at_call 17; refine (rnum_nat _ b len cap a f x2.2 S2r.out.rd 65536 (by omega) (by omega)).mono ?_; rintro e w4 ⟨nn, rfl, HN⟩; have S4 := hid_of (S2r.out.read hbl HA.out HN.out.1 HN.out.2.1))
    clear S2r
    have PL := hid_of (S4.out.pl hbl HA.out)
    have LB := hid_of HN.out.2.2
    have nb : nn ≤ 65536 := by have := HN.out.2.2.2; omega
    clear HN
    go_cut [7] (fun s_ X => ∃ acc sl, Hid (SS w X b len cap a f { ({ Oc.zero with nm := x0.1, key := x1.1, im := sl2 } : Oc) with co := sl } { (⟨x0.1, x1.1, acc2, [], [], [], [], 0, [], [], [], [], []⟩ : Ob) with code := acc } x3.2 ∧ (x3.2.st = false → acc = x3.1)))
    case first =>
      obtain ⟨X0, hX0⟩ : ∃ X0, X0 = w4 := ⟨_, rfl⟩
      rw [← hX0] at S4 PL ⊢
      clear hX0
      have RR : Hid (x3 = loopS (wordS f len) nn [] (numS f len 65536 x2.2).2) := hid_of (by rw [← E3.out, LB.out.1]; rfl)
      have LS : Hid (Lp (wordS f len) x3 nn [] (numS f len 65536 x2.2).2) := hid_of (by rw [RR.out]; exact Lp.start _ _ _ fun e => by rw [LB.out.1, num_zero e]; rfl)
      clear RR LB
      generalize (numS f len 65536 x2.2).2 = sa at *
      have L0 := hid_of (And.intro S4.out.li (own_nil X0 X0.heap.size 24 1))
      go_wp2_with fail
      go_loopg [7] nn (fun gf s_ wx => ∃ (i : Nat) (acc : List (Int)) (s : St) (sl : Sl), s_ = .int .i64 (i : Int) ∧ i + gf = nn ∧ Hid (LI X0 wx b len cap a f (w.heap.size + 1) w.heap.size { ({ Oc.zero with nm := x0.1, key := x1.1, im := sl2 } : Oc) with co := sl } s ∧ wx.ownsRow X0.heap.size 24 1 (.slice sl.a sl.n sl.c) acc.length (acc.map (Value.int .u32)) ∧ Lp (wordS f len) x3 gf acc s ∧ acc.length = i))
      case atStart => exact ⟨0, [], sa, ⟨none, 0, 0⟩, rfl, by omega, L0.out.1, L0.out.2, LS.out, rfl⟩
      case round =>
        clear LS L0
        obtain ⟨i, acc, s, sl, rfl, hi, HL⟩ := hrel
        have cb := HL.out.1.rd.c2
        have FIN : Hid (gk = 0 ∨ s.st = true → ∃ acc sl, Hid (SS w wr b len cap a f { ({ Oc.zero with nm := x0.1, key := x1.1, im := sl2 } : Oc) with co := sl } { (⟨x0.1, x1.1, acc2, [], [], [], [], 0, [], [], [], [], []⟩ : Ob) with code := acc } x3.2 ∧ (x3.2.st = false → acc = x3.1))) := fun hm => by
          obtain ⟨l1, l2, l3, l4⟩ := HL.out
          obtain ⟨f1, f2⟩ := l3.fin hm
          refine ⟨acc, sl, ?_, fun e => (f2 (by rw [← f1]; exact e)).symm⟩
          rw [f1]
          exact S4.out.join hbl l1 (fun q => q.co_ sl acc (own_base l2 (by have := S4.out.bx.lt; omega)))
        by_cases hlt : i < nn
        rotate_left
        · have d1 : decide ((i : Int) < (nn : Int)) = false := decide_eq_false (by omega)
          have FF := hid_of (FIN.out (.inl (by omega)))
          clear FIN HL
          go_wp2
          go_meet
          exact FF.out
        have d1 : decide ((i : Int) < (nn : Int)) = true := decide_eq_true (by omega)
        obtain ⟨p, st⟩ := s
        cases st
        rotate_left
        · have d2 : decide ((p : Int) < 0) = false := decide_eq_false (by omega)
          rw [bad_stuck] at cb
          have FF := hid_of (FIN.out (.inr rfl))
          clear FIN HL
          go_wp2
          go_meet
          exact FF.out
        rw [bad_live] at cb
        obtain ⟨g', rfl⟩ : ∃ g', gk = g' + 1 := ⟨gk - 1, by omega⟩
        clear FIN
        have LD := hid_of (And.intro HL.out.1.drew (own_drew HL.out.2.1))
        have NX := hid_of (And.intro (HL.out.2.2.1.next rfl) HL.out.2.2.2)
        have TR : Hid (∀ X, DRd X b a len cap f ⟨p, false⟩ → Calls Try.prog 49 #[.pointer (some ⟨b, 0, none⟩)] X (PostV X b a len cap f (.int .u32 (wordS f len ⟨p, false⟩).1) (wordS f len ⟨p, false⟩).2)) := fun X hX => rword_of X b len cap a f _ hX
        have cD : wr.drew.cell? ⟨w.heap.size + 1, 3, none⟩ = some (.slice sl.a sl.n sl.c) := blk_cell LD.out.1.bx 3
        clear HL
        generalize wordS f len ⟨p, false⟩ = t1 at *
        have AP : Hid (∀ X, LI X0 X b len cap a f (w.heap.size + 1) w.heap.size { ({ Oc.zero with nm := x0.1, key := x1.1, im := sl2 } : Oc) with co := sl } t1.2 → X.ownsRow X0.heap.size 24 1 (.slice sl.a sl.n sl.c) acc.length (acc.map (Value.int .u32)) → _) := fun X hX ho => by
          obtain ⟨i0, hi0, hz0, hz1, hz2⟩ := info_parts info_u32
          exact hX.app (j := 3) (c' := fun s' => { ({ Oc.zero with nm := x0.1, key := x1.1, im := sl2 } : Oc) with co := s' }) PL.out Try.underlying26 hi0 hz0 hz1 hz2 rfl (by omega) (by omega) #[.int .u32 t1.1] rfl (by intro u hu; simp at hu; subst hu; rfl) ho (by have := NX.out.2; omega) rfl (fun Y s' hY => Go.Joins.block_setCell hY _)
        go_wp2
        refine wp_region_held_drew (S := (fun _ => True)) (by kernel_rfl) trivial (fun hHeld => ?_)
        refine wpAnyH_take (i := 0) (v := ?_) rfl (by kernel_rfl) (by kernel_rfl) (by kernel_rfl) (fun _ _ _ h => h) (Or.inl ⟨by kernel_rfl, ?y0c⟩) hHeld ?r0c
        case y0c => (intro wq hSw; go_simp; try rfl)
        simp only [Act.put, List.setIfInBounds_toArray, List.set_cons_zero, List.set_cons_succ]
        refine wpAnyH_take (i := 2) (v := ?_) rfl (by kernel_rfl) (by kernel_rfl) (by kernel_rfl) (fun _ _ _ h => h) (Or.inl ⟨by kernel_rfl, ?y2c⟩) hHeld ?r2c
        case y2c => (intro wq hSw; go_simp; try rfl)
        simp only [Act.put, List.setIfInBounds_toArray, List.set_cons_zero, List.set_cons_succ]
        refine wpAnyH_ready (rs := [1, 3]) (by kernel_rfl) (by simp) ?_
        refine AllReadyH.cons rfl (fun K hK => ?_) (AllReadyH.cons rfl (fun K hK => ?_) AllReadyH.nil)
        · go_simp
          refine hK.out _ _ trivial (fun _ => ?_)
          clear hK K
          refine wpAnyH_ready (rs := [3]) (by kernel_rfl) (by simp) ?_
          refine AllReadyH.cons rfl (fun K hK => ?_) AllReadyH.nil
          go_simp
          go_wp2_with (go_at_call 49; refine (TR.out _ LD.out.1.rd).mono ?_; rintro e w5 ⟨rfl, hr, hg⟩; obtain ⟨s', Y, hrun, cY, fY, cX, cA, HNX⟩ := AP.out w5 (LD.out.1.read PL.out hr hg) (own_read LD.out.2 PL.out hg); clear hr hg)
          refine hK.out _ _ trivial (fun _ => ?_)
          clear hK K
          refine wpAnyH_ready (rs := [4]) (by kernel_rfl) (by simp) ?_
          refine AllReadyH.cons rfl (fun K hK => ?_) AllReadyH.nil
          go_simp
          refine hK.out _ _ trivial (fun _ => ?_)
          clear hK K
          refine wpAnyH_ready (rs := [5]) (by kernel_rfl) (by simp) ?_
          refine AllReadyH.cons rfl (fun K hK => ?_) AllReadyH.nil
          go_simp
          refine hK.out _ _ trivial (fun _ => ?_)
          clear hK K
          refine wpAnyH_ready (rs := [6]) (by kernel_rfl) (by simp) ?_
          refine AllReadyH.cons rfl (fun K hK => ?_) AllReadyH.nil
          go_simp
          refine hK.out _ _ trivial (fun _ => ?_)
          clear hK K
          refine wpAnyH_ready (rs := [7]) (by kernel_rfl) (by simp) ?_
          refine AllReadyH.cons rfl (fun K hK => ?_) AllReadyH.nil
          go_simp
          refine hK.out _ _ trivial (fun _ => ?_)
          clear hK K
          refine wpAnyH_done (by kernel_rfl) ?_ _
          go_wp2_with fail
          go_roundg g'
          case measure => omega
          case rel => exact ⟨i + 1, acc ++ [t1.1], t1.2, s', by simp, by omega, HNX.out.1, by rw [List.length_append, List.map_append]; exact HNX.out.2.1, NX.out.1, by rw [List.length_append, NX.out.2]; rfl⟩
        · go_simp
          go_wp2_with (go_at_call 49; refine (TR.out _ LD.out.1.rd).mono ?_; rintro e w5 ⟨rfl, hr, hg⟩; obtain ⟨s', Y, hrun, cY, fY, cX, cA, HNX⟩ := AP.out w5 (LD.out.1.read PL.out hr hg) (own_read LD.out.2 PL.out hg); clear hr hg)
          refine hK.out _ _ trivial (fun _ => ?_)
          clear hK K
          refine wpAnyH_ready (rs := [1, 4]) (by kernel_rfl) (by simp) ?_
          refine AllReadyH.cons rfl (fun K hK => ?_) (AllReadyH.cons rfl (fun K hK => ?_) AllReadyH.nil)
          · go_simp
            refine hK.out _ _ trivial (fun _ => ?_)
            clear hK K
            refine wpAnyH_ready (rs := [4]) (by kernel_rfl) (by simp) ?_
            refine AllReadyH.cons rfl (fun K hK => ?_) AllReadyH.nil
            go_simp
            refine hK.out _ _ trivial (fun _ => ?_)
            clear hK K
            refine wpAnyH_ready (rs := [5]) (by kernel_rfl) (by simp) ?_
            refine AllReadyH.cons rfl (fun K hK => ?_) AllReadyH.nil
            go_simp
            refine hK.out _ _ trivial (fun _ => ?_)
            clear hK K
            refine wpAnyH_ready (rs := [6]) (by kernel_rfl) (by simp) ?_
            refine AllReadyH.cons rfl (fun K hK => ?_) AllReadyH.nil
            go_simp
            refine hK.out _ _ trivial (fun _ => ?_)
            clear hK K
            refine wpAnyH_ready (rs := [7]) (by kernel_rfl) (by simp) ?_
            refine AllReadyH.cons rfl (fun K hK => ?_) AllReadyH.nil
            go_simp
            refine hK.out _ _ trivial (fun _ => ?_)
            clear hK K
            refine wpAnyH_done (by kernel_rfl) ?_ _
            go_wp2_with fail
            go_roundg g'
            case measure => omega
            case rel => exact ⟨i + 1, acc ++ [t1.1], t1.2, s', by simp, by omega, HNX.out.1, by rw [List.length_append, List.map_append]; exact HNX.out.2.1, NX.out.1, by rw [List.length_append, NX.out.2]; rfl⟩
          · go_simp
            refine hK.out _ _ trivial (fun _ => ?_)
            clear hK K
            refine wpAnyH_ready (rs := [1]) (by kernel_rfl) (by simp) ?_
            refine AllReadyH.cons rfl (fun K hK => ?_) AllReadyH.nil
            go_simp
            refine hK.out _ _ trivial (fun _ => ?_)
            clear hK K
            refine wpAnyH_ready (rs := [5]) (by kernel_rfl) (by simp) ?_
            refine AllReadyH.cons rfl (fun K hK => ?_) AllReadyH.nil
            go_simp
            refine hK.out _ _ trivial (fun _ => ?_)
            clear hK K
            refine wpAnyH_ready (rs := [6]) (by kernel_rfl) (by simp) ?_
            refine AllReadyH.cons rfl (fun K hK => ?_) AllReadyH.nil
            go_simp
            refine hK.out _ _ trivial (fun _ => ?_)
            clear hK K
            refine wpAnyH_ready (rs := [7]) (by kernel_rfl) (by simp) ?_
            refine AllReadyH.cons rfl (fun K hK => ?_) AllReadyH.nil
            go_simp
            refine hK.out _ _ trivial (fun _ => ?_)
            clear hK K
            refine wpAnyH_done (by kernel_rfl) ?_ _
            go_wp2_with fail
            go_roundg g'
            case measure => omega
            case rel => exact ⟨i + 1, acc ++ [t1.1], t1.2, s', by simp, by omega, HNX.out.1, by rw [List.length_append, List.map_append]; exact HNX.out.2.1, NX.out.1, by rw [List.length_append, NX.out.2]; rfl⟩
    case rest =>
      obtain ⟨acc3, sl3, H3⟩ := hcut
      have A3 := hid_of H3.out.2
      have S3r := hid_of H3.out.1
      clear H3
      go_upto_block 4 with (go_at_call 17; refine (rnum_nat _ b len cap a f x3.2 S3r.out.rd 100 (by omega) (by omega)).mono ?_; rintro e w5 ⟨nn, rfl, HN⟩; have S5 := hid_of (S3r.out.read hbl HA.out HN.out.1 HN.out.2.1))
      clear S3r
      have PL := hid_of (S5.out.pl hbl HA.out)
      have LB := hid_of HN.out.2.2
      have nb : nn ≤ 100 := by have := HN.out.2.2.2; omega
      clear HN
      go_cut [8] (fun s_ X => ∃ acc sp sn se, Hid (SS w X b len cap a f { ({ Oc.zero with nm := x0.1, key := x1.1, im := sl2, co := sl3 } : Oc) with pr := sp, na := sn, ex := se } { (⟨x0.1, x1.1, acc2, acc3, [], [], [], 0, [], [], [], [], []⟩ : Ob) with procs := acc.map (·.1), names := acc.map (·.2.1), exps := acc.map (·.2.2) } x4.2 ∧ (x4.2.st = false → acc = x4.1)))
      case first =>
        obtain ⟨X0, hX0⟩ : ∃ X0, X0 = w5 := ⟨_, rfl⟩
        rw [← hX0] at S5 PL ⊢
        clear hX0
        have RR : Hid (x4 = loopS (prcS f len) nn [] (numS f len 100 x3.2).2) := hid_of (by rw [← E4.out, LB.out.1]; rfl)
        have LS : Hid (Lp (prcS f len) x4 nn [] (numS f len 100 x3.2).2) := hid_of (by rw [RR.out]; exact Lp.start _ _ _ fun e => by rw [LB.out.1, num_zero e]; rfl)
        clear RR LB
        generalize (numS f len 100 x3.2).2 = sa at *
        have L0 := hid_of (And.intro S5.out.li (And.intro (own_nil X0 X0.heap.size 3 1) (And.intro (own_nil X0 X0.heap.size 9 1) (own_nil X0 X0.heap.size 4 1))))
        go_wp2_with fail
        go_loopg [8] nn (fun gf s_ wx => ∃ (i : Nat) (acc : List (Int × ByteArray × Bool)) (s : St) (sp sn se : Sl), s_ = .int .i64 (i : Int) ∧ i + gf = nn ∧ Hid (LI X0 wx b len cap a f (w.heap.size + 1) w.heap.size { ({ Oc.zero with nm := x0.1, key := x1.1, im := sl2, co := sl3 } : Oc) with pr := sp, na := sn, ex := se } s ∧ wx.ownsRow X0.heap.size 3 1 (.slice sp.a sp.n sp.c) acc.length (acc.map fun q => Value.int .i64 q.1) ∧ wx.ownsRow X0.heap.size 9 1 (.slice sn.a sn.n sn.c) acc.length (acc.map fun q => Value.string q.2.1) ∧ wx.ownsRow X0.heap.size 4 1 (.slice se.a se.n se.c) acc.length (acc.map fun q => Value.bool q.2.2) ∧ Lp (prcS f len) x4 gf acc s ∧ acc.length = i))
        case atStart => exact ⟨0, [], sa, ⟨none, 0, 0⟩, ⟨none, 0, 0⟩, ⟨none, 0, 0⟩, rfl, by omega, L0.out.1, L0.out.2.1, L0.out.2.2.1, L0.out.2.2.2, LS.out, rfl⟩
        case round =>
          clear LS L0
          obtain ⟨i, acc, s, sp, sn, se, rfl, hi, HL⟩ := hrel
          have cb := HL.out.1.rd.c2
          have FIN : Hid (gk = 0 ∨ s.st = true → ∃ acc sp sn se, Hid (SS w wr b len cap a f { ({ Oc.zero with nm := x0.1, key := x1.1, im := sl2, co := sl3 } : Oc) with pr := sp, na := sn, ex := se } { (⟨x0.1, x1.1, acc2, acc3, [], [], [], 0, [], [], [], [], []⟩ : Ob) with procs := acc.map (·.1), names := acc.map (·.2.1), exps := acc.map (·.2.2) } x4.2 ∧ (x4.2.st = false → acc = x4.1))) := fun hm => by
            obtain ⟨l1, l2, l3, l4, l5, l6⟩ := HL.out
            obtain ⟨f1, f2⟩ := l5.fin hm
            refine ⟨acc, sp, sn, se, ?_, fun e => (f2 (by rw [← f1]; exact e)).symm⟩
            rw [f1]
            have hlt := S5.out.bx.lt
            refine S5.out.join hbl l1 (fun q => q.pa_ sp sn se (acc.map (·.1)) acc ?_ (own_base l3 (by omega)) (own_base l4 (by omega)))
            have := own_base l2 (show w.heap.size + 2 ≤ X0.heap.size by omega)
            rw [List.length_map, List.map_map]
            exact this
          by_cases hlt : i < nn
          rotate_left
          · have d1 : decide ((i : Int) < (nn : Int)) = false := decide_eq_false (by omega)
            have FF := hid_of (FIN.out (.inl (by omega)))
            clear FIN HL
            go_wp2
            go_meet
            exact FF.out
          have d1 : decide ((i : Int) < (nn : Int)) = true := decide_eq_true (by omega)
          obtain ⟨p, st⟩ := s
          cases st
          rotate_left
          · have d2 : decide ((p : Int) < 0) = false := decide_eq_false (by omega)
            rw [bad_stuck] at cb
            have FF := hid_of (FIN.out (.inr rfl))
            clear FIN HL
            go_wp2
            go_meet
            exact FF.out
          rw [bad_live] at cb
          obtain ⟨g', rfl⟩ : ∃ g', gk = g' + 1 := ⟨gk - 1, by omega⟩
          clear FIN
          have LD := hid_of HL.out
          have NX := hid_of (And.intro (HL.out.2.2.2.2.1.next rfl) HL.out.2.2.2.2.2)
          have hP : prcS f len ⟨p, false⟩ = (((numS f len 4294967295 ⟨p, false⟩).1, (textS f len 20 (numS f len 4294967295 ⟨p, false⟩).2).1, (octS f len 1 (textS f len 20 (numS f len 4294967295 ⟨p, false⟩).2).2).1 == 1), (octS f len 1 (textS f len 20 (numS f len 4294967295 ⟨p, false⟩).2).2).2) := rfl
          rw [hP] at NX
          have TR1 : Hid (∀ X, DRd X b a len cap f ⟨p, false⟩ → Calls Try.prog 17 #[.pointer (some ⟨b, 0, none⟩), .int .i64 4294967295] X (PostV X b a len cap f (.int .i64 (numS f len 4294967295 ⟨p, false⟩).1) (numS f len 4294967295 ⟨p, false⟩).2)) := fun X hX => rnumber_of X b len cap a f _ hX 4294967295 (by omega) (by omega)
          generalize numS f len 4294967295 ⟨p, false⟩ = t1 at *
          have TR2 : Hid (∀ X, DRd X b a len cap f t1.2 → Calls Try.prog 48 #[.pointer (some ⟨b, 0, none⟩), .int .i64 20] X (PostV X b a len cap f (.string (textS f len 20 t1.2).1) (textS f len 20 t1.2).2)) := fun X hX => rtext_of X b len cap a f _ hX 20 (by omega) (by omega)
          generalize textS f len 20 t1.2 = t2 at *
          have TR3 : Hid (∀ X, DRd X b a len cap f t2.2 → Calls Try.prog 18 #[.pointer (some ⟨b, 0, none⟩), .int .u8 1] X (PostV X b a len cap f (.int .u8 (octS f len 1 t2.2).1) (octS f len 1 t2.2).2)) := fun X hX => rone_of X b len cap a f _ hX 1 (by omega) (by omega)
          generalize octS f len 1 t2.2 = t3 at *
          have hal : acc.length ≤ 100 := by have := NX.out.2; omega
          have AP1 : Hid (∀ X, LI X0 X b len cap a f (w.heap.size + 1) w.heap.size { ({ Oc.zero with nm := x0.1, key := x1.1, im := sl2, co := sl3 } : Oc) with pr := sp, na := sn, ex := se } t1.2 → X.ownsRow X0.heap.size 3 1 (.slice sp.a sp.n sp.c) acc.length (acc.map fun q => Value.int .i64 q.1) → _) := fun X hX ho => by
            obtain ⟨i0, hi0, hz0, hz1, hz2⟩ := info_parts info_int
            exact hX.app (j := 4) (c' := fun s' => { ({ Oc.zero with nm := x0.1, key := x1.1, im := sl2, co := sl3 } : Oc) with pr := s', na := sn, ex := se }) PL.out Try.underlying27 hi0 hz0 hz1 hz2 rfl (by omega) (by omega) #[.int .i64 t1.1] rfl (by intro u hu; simp at hu; subst hu; rfl) ho (by omega) rfl (fun Y s' hY => Go.Joins.block_setCell hY _)
          have AP2 : Hid (∀ X sp, LI X0 X b len cap a f (w.heap.size + 1) w.heap.size { ({ Oc.zero with nm := x0.1, key := x1.1, im := sl2, co := sl3 } : Oc) with pr := sp, na := sn, ex := se } t2.2 → X.ownsRow X0.heap.size 9 1 (.slice sn.a sn.n sn.c) acc.length (acc.map fun q => Value.string q.2.1) → _) := fun X sp hX ho => by
            obtain ⟨i0, hi0, hz0, hz1, hz2⟩ := info_parts info_str
            exact hX.app (j := 5) (c' := fun s' => { ({ Oc.zero with nm := x0.1, key := x1.1, im := sl2, co := sl3 } : Oc) with pr := sp, na := s', ex := se }) PL.out Try.underlying28 hi0 hz0 hz1 hz2 rfl (by omega) (by omega) #[.string t2.1] rfl (by intro u hu; simp at hu; subst hu; rfl) ho (by omega) rfl (fun Y s' hY => Go.Joins.block_setCell hY _)
          have AP3 : Hid (∀ X sp sn, LI X0 X b len cap a f (w.heap.size + 1) w.heap.size { ({ Oc.zero with nm := x0.1, key := x1.1, im := sl2, co := sl3 } : Oc) with pr := sp, na := sn, ex := se } t3.2 → X.ownsRow X0.heap.size 4 1 (.slice se.a se.n se.c) acc.length (acc.map fun q => Value.bool q.2.2) → _) := fun X sp sn hX ho => by
            obtain ⟨i0, hi0, hz0, hz1, hz2⟩ := info_parts info_bool
            exact hX.app (j := 6) (c' := fun s' => { ({ Oc.zero with nm := x0.1, key := x1.1, im := sl2, co := sl3 } : Oc) with pr := sp, na := sn, ex := s' }) PL.out Try.underlying29 hi0 hz0 hz1 hz2 rfl (by omega) (by omega) #[.bool (t3.1 == 1)] rfl (by intro u hu; simp at hu; subst hu; rfl) ho (by omega) rfl (fun Y s' hY => Go.Joins.block_setCell hY _)
          have cD : wr.drew.cell? ⟨w.heap.size + 1, 4, none⟩ = some (.slice sp.a sp.n sp.c) := blk_cell LD.out.1.bx 4
          clear HL hP
          go_upto_region 21 with fail
          go_cut [8] from 67 to 100 (fun s8 X => s8 = .int .i64 (i : Int) ∧ ∃ sp, Hid (LI X0 X b len cap a f (w.heap.size + 1) w.heap.size { ({ Oc.zero with nm := x0.1, key := x1.1, im := sl2, co := sl3 } : Oc) with pr := sp, na := sn, ex := se } t1.2 ∧ X.ownsRow X0.heap.size 3 1 (.slice sp.a sp.n sp.c) (acc.length + 1) ((acc.map fun q => Value.int .i64 q.1) ++ [.int .i64 t1.1]) ∧ X.ownsRow X0.heap.size 9 1 (.slice sn.a sn.n sn.c) acc.length (acc.map fun q => Value.string q.2.1) ∧ X.ownsRow X0.heap.size 4 1 (.slice se.a se.n se.c) acc.length (acc.map fun q => Value.bool q.2.2)))
          case first =>
            refine wp_region_held_drew (S := (fun _ => True)) (by kernel_rfl) trivial (fun hHeld => ?_)
            refine wpAnyH_take (i := 0) (v := ?_) rfl (by kernel_rfl) (by kernel_rfl) (by kernel_rfl) (fun _ _ _ h => h) (Or.inl ⟨by kernel_rfl, ?y0u⟩) hHeld ?r0u
            case y0u => (intro wq hSw; go_simp; try rfl)
            simp only [Act.put, List.setIfInBounds_toArray, List.set_cons_zero, List.set_cons_succ]
            refine wpAnyH_take (i := 2) (v := ?_) rfl (by kernel_rfl) (by kernel_rfl) (by kernel_rfl) (fun _ _ _ h => h) (Or.inl ⟨by kernel_rfl, ?y2u⟩) hHeld ?r2u
            case y2u => (intro wq hSw; go_simp; try rfl)
            simp only [Act.put, List.setIfInBounds_toArray, List.set_cons_zero, List.set_cons_succ]
            refine wpAnyH_ready (rs := [1, 3]) (by kernel_rfl) (by simp) ?_
            refine AllReadyH.cons rfl (fun K hK => ?_) (AllReadyH.cons rfl (fun K hK => ?_) AllReadyH.nil)
            · go_simp
              refine hK.out _ _ trivial (fun _ => ?_)
              clear hK K
              refine wpAnyH_ready (rs := [3]) (by kernel_rfl) (by simp) ?_
              refine AllReadyH.cons rfl (fun K hK => ?_) AllReadyH.nil
              go_simp
              go_wp2_with (go_at_call 17; refine (TR1.out _ (LD.out.1.drew).rd).mono ?_; rintro e w5 ⟨rfl, hr, hg⟩; obtain ⟨s', Y, hrun, cY, fY, cX, cA, HNX⟩ := AP1.out w5 ((LD.out.1.drew).read PL.out hr hg) (own_read (own_drew LD.out.2.1) PL.out hg); have O2 := hid_of (own_read (own_drew LD.out.2.2.1) PL.out hg); have O3 := hid_of (own_read (own_drew LD.out.2.2.2.1) PL.out hg); clear hr hg)
              refine hK.out _ _ trivial (fun _ => ?_)
              clear hK K
              refine wpAnyH_ready (rs := [4]) (by kernel_rfl) (by simp) ?_
              refine AllReadyH.cons rfl (fun K hK => ?_) AllReadyH.nil
              go_simp
              refine hK.out _ _ trivial (fun _ => ?_)
              clear hK K
              refine wpAnyH_ready (rs := [5]) (by kernel_rfl) (by simp) ?_
              refine AllReadyH.cons rfl (fun K hK => ?_) AllReadyH.nil
              go_simp
              refine hK.out _ _ trivial (fun _ => ?_)
              clear hK K
              refine wpAnyH_ready (rs := [6]) (by kernel_rfl) (by simp) ?_
              refine AllReadyH.cons rfl (fun K hK => ?_) AllReadyH.nil
              go_simp
              refine hK.out _ _ trivial (fun _ => ?_)
              clear hK K
              refine wpAnyH_ready (rs := [7]) (by kernel_rfl) (by simp) ?_
              refine AllReadyH.cons rfl (fun K hK => ?_) AllReadyH.nil
              go_simp
              refine hK.out _ _ trivial (fun _ => ?_)
              clear hK K
              refine wpAnyH_done (by kernel_rfl) ?_ _
              go_wp2_with fail
              go_meet
              exact ⟨rfl, s', HNX.out.1, HNX.out.2.1, HNX.out.2.2 _ _ _ _ _ (by decide) O2.out, HNX.out.2.2 _ _ _ _ _ (by decide) O3.out⟩
            · go_simp
              go_wp2_with (go_at_call 17; refine (TR1.out _ (LD.out.1.drew).rd).mono ?_; rintro e w5 ⟨rfl, hr, hg⟩; obtain ⟨s', Y, hrun, cY, fY, cX, cA, HNX⟩ := AP1.out w5 ((LD.out.1.drew).read PL.out hr hg) (own_read (own_drew LD.out.2.1) PL.out hg); have O2 := hid_of (own_read (own_drew LD.out.2.2.1) PL.out hg); have O3 := hid_of (own_read (own_drew LD.out.2.2.2.1) PL.out hg); clear hr hg)
              refine hK.out _ _ trivial (fun _ => ?_)
              clear hK K
              refine wpAnyH_ready (rs := [1, 4]) (by kernel_rfl) (by simp) ?_
              refine AllReadyH.cons rfl (fun K hK => ?_) (AllReadyH.cons rfl (fun K hK => ?_) AllReadyH.nil)
              · go_simp
                refine hK.out _ _ trivial (fun _ => ?_)
                clear hK K
                refine wpAnyH_ready (rs := [4]) (by kernel_rfl) (by simp) ?_
                refine AllReadyH.cons rfl (fun K hK => ?_) AllReadyH.nil
                go_simp
                refine hK.out _ _ trivial (fun _ => ?_)
                clear hK K
                refine wpAnyH_ready (rs := [5]) (by kernel_rfl) (by simp) ?_
                refine AllReadyH.cons rfl (fun K hK => ?_) AllReadyH.nil
                go_simp
                refine hK.out _ _ trivial (fun _ => ?_)
                clear hK K
                refine wpAnyH_ready (rs := [6]) (by kernel_rfl) (by simp) ?_
                refine AllReadyH.cons rfl (fun K hK => ?_) AllReadyH.nil
                go_simp
                refine hK.out _ _ trivial (fun _ => ?_)
                clear hK K
                refine wpAnyH_ready (rs := [7]) (by kernel_rfl) (by simp) ?_
                refine AllReadyH.cons rfl (fun K hK => ?_) AllReadyH.nil
                go_simp
                refine hK.out _ _ trivial (fun _ => ?_)
                clear hK K
                refine wpAnyH_done (by kernel_rfl) ?_ _
                go_wp2_with fail
                go_meet
                exact ⟨rfl, s', HNX.out.1, HNX.out.2.1, HNX.out.2.2 _ _ _ _ _ (by decide) O2.out, HNX.out.2.2 _ _ _ _ _ (by decide) O3.out⟩
              · go_simp
                refine hK.out _ _ trivial (fun _ => ?_)
                clear hK K
                refine wpAnyH_ready (rs := [1]) (by kernel_rfl) (by simp) ?_
                refine AllReadyH.cons rfl (fun K hK => ?_) AllReadyH.nil
                go_simp
                refine hK.out _ _ trivial (fun _ => ?_)
                clear hK K
                refine wpAnyH_ready (rs := [5]) (by kernel_rfl) (by simp) ?_
                refine AllReadyH.cons rfl (fun K hK => ?_) AllReadyH.nil
                go_simp
                refine hK.out _ _ trivial (fun _ => ?_)
                clear hK K
                refine wpAnyH_ready (rs := [6]) (by kernel_rfl) (by simp) ?_
                refine AllReadyH.cons rfl (fun K hK => ?_) AllReadyH.nil
                go_simp
                refine hK.out _ _ trivial (fun _ => ?_)
                clear hK K
                refine wpAnyH_ready (rs := [7]) (by kernel_rfl) (by simp) ?_
                refine AllReadyH.cons rfl (fun K hK => ?_) AllReadyH.nil
                go_simp
                refine hK.out _ _ trivial (fun _ => ?_)
                clear hK K
                refine wpAnyH_done (by kernel_rfl) ?_ _
                go_wp2_with fail
                go_meet
                exact ⟨rfl, s', HNX.out.1, HNX.out.2.1, HNX.out.2.2 _ _ _ _ _ (by decide) O2.out, HNX.out.2.2 _ _ _ _ _ (by decide) O3.out⟩
          case rest =>
            clear LD AP1 TR1 cD
            obtain ⟨rfl, sp, LD⟩ := hcut
            have cD : wc.drew.cell? ⟨w.heap.size + 1, 5, none⟩ = some (.slice sn.a sn.n sn.c) := blk_cell LD.out.1.bx 5
            go_upto_region 22 with fail
            go_cut [8] from 67 to 100 (fun s8 X => s8 = .int .i64 (i : Int) ∧ ∃ sn, Hid (LI X0 X b len cap a f (w.heap.size + 1) w.heap.size { ({ Oc.zero with nm := x0.1, key := x1.1, im := sl2, co := sl3 } : Oc) with pr := sp, na := sn, ex := se } t2.2 ∧ X.ownsRow X0.heap.size 3 1 (.slice sp.a sp.n sp.c) (acc.length + 1) ((acc.map fun q => Value.int .i64 q.1) ++ [.int .i64 t1.1]) ∧ X.ownsRow X0.heap.size 9 1 (.slice sn.a sn.n sn.c) (acc.length + 1) ((acc.map fun q => Value.string q.2.1) ++ [.string t2.1]) ∧ X.ownsRow X0.heap.size 4 1 (.slice se.a se.n se.c) acc.length (acc.map fun q => Value.bool q.2.2)))
            case first =>
              refine wp_region_held_drew (S := (fun _ => True)) (by kernel_rfl) trivial (fun hHeld => ?_)
              refine wpAnyH_take (i := 0) (v := ?_) rfl (by kernel_rfl) (by kernel_rfl) (by kernel_rfl) (fun _ _ _ h => h) (Or.inl ⟨by kernel_rfl, ?y0v⟩) hHeld ?r0v
              case y0v => (intro wq hSw; go_simp; try rfl)
              simp only [Act.put, List.setIfInBounds_toArray, List.set_cons_zero, List.set_cons_succ]
              refine wpAnyH_take (i := 2) (v := ?_) rfl (by kernel_rfl) (by kernel_rfl) (by kernel_rfl) (fun _ _ _ h => h) (Or.inl ⟨by kernel_rfl, ?y2v⟩) hHeld ?r2v
              case y2v => (intro wq hSw; go_simp; try rfl)
              simp only [Act.put, List.setIfInBounds_toArray, List.set_cons_zero, List.set_cons_succ]
              refine wpAnyH_ready (rs := [1, 3]) (by kernel_rfl) (by simp) ?_
              refine AllReadyH.cons rfl (fun K hK => ?_) (AllReadyH.cons rfl (fun K hK => ?_) AllReadyH.nil)
              · go_simp
                refine hK.out _ _ trivial (fun _ => ?_)
                clear hK K
                refine wpAnyH_ready (rs := [3]) (by kernel_rfl) (by simp) ?_
                refine AllReadyH.cons rfl (fun K hK => ?_) AllReadyH.nil
                go_simp
                go_wp2_with (go_at_call 48; refine (TR2.out _ (LD.out.1.drew).rd).mono ?_; rintro e w5 ⟨rfl, hr, hg⟩; obtain ⟨s', Y, hrun, cY, fY, cX, cA, HNX⟩ := AP2.out w5 sp ((LD.out.1.drew).read PL.out hr hg) (own_read (own_drew LD.out.2.2.1) PL.out hg); have O2 := hid_of (own_read (own_drew LD.out.2.1) PL.out hg); have O3 := hid_of (own_read (own_drew LD.out.2.2.2) PL.out hg); clear hr hg)
                refine hK.out _ _ trivial (fun _ => ?_)
                clear hK K
                refine wpAnyH_ready (rs := [4]) (by kernel_rfl) (by simp) ?_
                refine AllReadyH.cons rfl (fun K hK => ?_) AllReadyH.nil
                go_simp
                refine hK.out _ _ trivial (fun _ => ?_)
                clear hK K
                refine wpAnyH_ready (rs := [5]) (by kernel_rfl) (by simp) ?_
                refine AllReadyH.cons rfl (fun K hK => ?_) AllReadyH.nil
                go_simp
                refine hK.out _ _ trivial (fun _ => ?_)
                clear hK K
                refine wpAnyH_ready (rs := [6]) (by kernel_rfl) (by simp) ?_
                refine AllReadyH.cons rfl (fun K hK => ?_) AllReadyH.nil
                go_simp
                refine hK.out _ _ trivial (fun _ => ?_)
                clear hK K
                refine wpAnyH_ready (rs := [7]) (by kernel_rfl) (by simp) ?_
                refine AllReadyH.cons rfl (fun K hK => ?_) AllReadyH.nil
                go_simp
                refine hK.out _ _ trivial (fun _ => ?_)
                clear hK K
                refine wpAnyH_done (by kernel_rfl) ?_ _
                go_wp2_with fail
                go_meet
                exact ⟨rfl, s', HNX.out.1, HNX.out.2.2 _ _ _ _ _ (by decide) O2.out, HNX.out.2.1, HNX.out.2.2 _ _ _ _ _ (by decide) O3.out⟩
              · go_simp
                go_wp2_with (go_at_call 48; refine (TR2.out _ (LD.out.1.drew).rd).mono ?_; rintro e w5 ⟨rfl, hr, hg⟩; obtain ⟨s', Y, hrun, cY, fY, cX, cA, HNX⟩ := AP2.out w5 sp ((LD.out.1.drew).read PL.out hr hg) (own_read (own_drew LD.out.2.2.1) PL.out hg); have O2 := hid_of (own_read (own_drew LD.out.2.1) PL.out hg); have O3 := hid_of (own_read (own_drew LD.out.2.2.2) PL.out hg); clear hr hg)
                refine hK.out _ _ trivial (fun _ => ?_)
                clear hK K
                refine wpAnyH_ready (rs := [1, 4]) (by kernel_rfl) (by simp) ?_
                refine AllReadyH.cons rfl (fun K hK => ?_) (AllReadyH.cons rfl (fun K hK => ?_) AllReadyH.nil)
                · go_simp
                  refine hK.out _ _ trivial (fun _ => ?_)
                  clear hK K
                  refine wpAnyH_ready (rs := [4]) (by kernel_rfl) (by simp) ?_
                  refine AllReadyH.cons rfl (fun K hK => ?_) AllReadyH.nil
                  go_simp
                  refine hK.out _ _ trivial (fun _ => ?_)
                  clear hK K
                  refine wpAnyH_ready (rs := [5]) (by kernel_rfl) (by simp) ?_
                  refine AllReadyH.cons rfl (fun K hK => ?_) AllReadyH.nil
                  go_simp
                  refine hK.out _ _ trivial (fun _ => ?_)
                  clear hK K
                  refine wpAnyH_ready (rs := [6]) (by kernel_rfl) (by simp) ?_
                  refine AllReadyH.cons rfl (fun K hK => ?_) AllReadyH.nil
                  go_simp
                  refine hK.out _ _ trivial (fun _ => ?_)
                  clear hK K
                  refine wpAnyH_ready (rs := [7]) (by kernel_rfl) (by simp) ?_
                  refine AllReadyH.cons rfl (fun K hK => ?_) AllReadyH.nil
                  go_simp
                  refine hK.out _ _ trivial (fun _ => ?_)
                  clear hK K
                  refine wpAnyH_done (by kernel_rfl) ?_ _
                  go_wp2_with fail
                  go_meet
                  exact ⟨rfl, s', HNX.out.1, HNX.out.2.2 _ _ _ _ _ (by decide) O2.out, HNX.out.2.1, HNX.out.2.2 _ _ _ _ _ (by decide) O3.out⟩
                · go_simp
                  refine hK.out _ _ trivial (fun _ => ?_)
                  clear hK K
                  refine wpAnyH_ready (rs := [1]) (by kernel_rfl) (by simp) ?_
                  refine AllReadyH.cons rfl (fun K hK => ?_) AllReadyH.nil
                  go_simp
                  refine hK.out _ _ trivial (fun _ => ?_)
                  clear hK K
                  refine wpAnyH_ready (rs := [5]) (by kernel_rfl) (by simp) ?_
                  refine AllReadyH.cons rfl (fun K hK => ?_) AllReadyH.nil
                  go_simp
                  refine hK.out _ _ trivial (fun _ => ?_)
                  clear hK K
                  refine wpAnyH_ready (rs := [6]) (by kernel_rfl) (by simp) ?_
                  refine AllReadyH.cons rfl (fun K hK => ?_) AllReadyH.nil
                  go_simp
                  refine hK.out _ _ trivial (fun _ => ?_)
                  clear hK K
                  refine wpAnyH_ready (rs := [7]) (by kernel_rfl) (by simp) ?_
                  refine AllReadyH.cons rfl (fun K hK => ?_) AllReadyH.nil
                  go_simp
                  refine hK.out _ _ trivial (fun _ => ?_)
                  clear hK K
                  refine wpAnyH_done (by kernel_rfl) ?_ _
                  go_wp2_with fail
                  go_meet
                  exact ⟨rfl, s', HNX.out.1, HNX.out.2.2 _ _ _ _ _ (by decide) O2.out, HNX.out.2.1, HNX.out.2.2 _ _ _ _ _ (by decide) O3.out⟩
            case rest =>
              clear LD AP2 TR2 cD
              obtain ⟨rfl, sn, LD⟩ := hcut
              have cD : wc.drew.cell? ⟨w.heap.size + 1, 6, none⟩ = some (.slice se.a se.n se.c) := blk_cell LD.out.1.bx 6
              go_upto_region 23 with fail
              refine wp_region_held_drew (S := (fun _ => True)) (by kernel_rfl) trivial (fun hHeld => ?_)
              refine wpAnyH_take (i := 0) (v := ?_) rfl (by kernel_rfl) (by kernel_rfl) (by kernel_rfl) (fun _ _ _ h => h) (Or.inl ⟨by kernel_rfl, ?y0x⟩) hHeld ?r0x
              case y0x => (intro wq hSw; go_simp; try rfl)
              simp only [Act.put, List.setIfInBounds_toArray, List.set_cons_zero, List.set_cons_succ]
              refine wpAnyH_take (i := 2) (v := ?_) rfl (by kernel_rfl) (by kernel_rfl) (by kernel_rfl) (fun _ _ _ h => h) (Or.inl ⟨by kernel_rfl, ?y2x⟩) hHeld ?r2x
              case y2x => (intro wq hSw; go_simp; try rfl)
              simp only [Act.put, List.setIfInBounds_toArray, List.set_cons_zero, List.set_cons_succ]
              refine wpAnyH_ready (rs := [1, 3]) (by kernel_rfl) (by simp) ?_
              refine AllReadyH.cons rfl (fun K hK => ?_) (AllReadyH.cons rfl (fun K hK => ?_) AllReadyH.nil)
              · go_simp
                refine hK.out _ _ trivial (fun _ => ?_)
                clear hK K
                refine wpAnyH_ready (rs := [3]) (by kernel_rfl) (by simp) ?_
                refine AllReadyH.cons rfl (fun K hK => ?_) AllReadyH.nil
                go_simp
                go_wp2_with (go_at_call 18; refine (TR3.out _ (LD.out.1.drew).rd).mono ?_; rintro e w5 ⟨rfl, hr, hg⟩; obtain ⟨s', Y, hrun, cY, fY, cX, cA, HNX⟩ := AP3.out w5 sp sn ((LD.out.1.drew).read PL.out hr hg) (own_read (own_drew LD.out.2.2.2) PL.out hg); have O2 := hid_of (own_read (own_drew LD.out.2.1) PL.out hg); have O3 := hid_of (own_read (own_drew LD.out.2.2.1) PL.out hg); clear hr hg)
                refine hK.out _ _ trivial (fun _ => ?_)
                clear hK K
                refine wpAnyH_ready (rs := [4]) (by kernel_rfl) (by simp) ?_
                refine AllReadyH.cons rfl (fun K hK => ?_) AllReadyH.nil
                go_simp
                refine hK.out _ _ trivial (fun _ => ?_)
                clear hK K
                refine wpAnyH_ready (rs := [5]) (by kernel_rfl) (by simp) ?_
                refine AllReadyH.cons rfl (fun K hK => ?_) AllReadyH.nil
                go_simp
                refine hK.out _ _ trivial (fun _ => ?_)
                clear hK K
                refine wpAnyH_ready (rs := [6]) (by kernel_rfl) (by simp) ?_
                refine AllReadyH.cons rfl (fun K hK => ?_) AllReadyH.nil
                go_simp
                refine hK.out _ _ trivial (fun _ => ?_)
                clear hK K
                refine wpAnyH_ready (rs := [7]) (by kernel_rfl) (by simp) ?_
                refine AllReadyH.cons rfl (fun K hK => ?_) AllReadyH.nil
                go_simp
                refine hK.out _ _ trivial (fun _ => ?_)
                clear hK K
                refine wpAnyH_ready (rs := [8]) (by kernel_rfl) (by simp) ?_
                refine AllReadyH.cons rfl (fun K hK => ?_) AllReadyH.nil
                go_simp
                refine hK.out _ _ trivial (fun _ => ?_)
                clear hK K
                refine wpAnyH_done (by kernel_rfl) ?_ _
                go_wp2_with fail
                go_roundg g'
                case measure => omega
                case rel => exact ⟨i + 1, acc ++ [(t1.1, t2.1, t3.1 == 1)], t3.2, sp, sn, s', by simp, by omega, HNX.out.1, by rw [List.length_append, List.map_append]; exact HNX.out.2.2 _ _ _ _ _ (by decide) O2.out, by rw [List.length_append, List.map_append]; exact HNX.out.2.2 _ _ _ _ _ (by decide) O3.out, by rw [List.length_append, List.map_append]; exact HNX.out.2.1, NX.out.1, by rw [List.length_append, NX.out.2]; rfl⟩
              · go_simp
                go_wp2_with (go_at_call 18; refine (TR3.out _ (LD.out.1.drew).rd).mono ?_; rintro e w5 ⟨rfl, hr, hg⟩; obtain ⟨s', Y, hrun, cY, fY, cX, cA, HNX⟩ := AP3.out w5 sp sn ((LD.out.1.drew).read PL.out hr hg) (own_read (own_drew LD.out.2.2.2) PL.out hg); have O2 := hid_of (own_read (own_drew LD.out.2.1) PL.out hg); have O3 := hid_of (own_read (own_drew LD.out.2.2.1) PL.out hg); clear hr hg)
                refine hK.out _ _ trivial (fun _ => ?_)
                clear hK K
                refine wpAnyH_ready (rs := [1, 4]) (by kernel_rfl) (by simp) ?_
                refine AllReadyH.cons rfl (fun K hK => ?_) (AllReadyH.cons rfl (fun K hK => ?_) AllReadyH.nil)
                · go_simp
                  refine hK.out _ _ trivial (fun _ => ?_)
                  clear hK K
                  refine wpAnyH_ready (rs := [4]) (by kernel_rfl) (by simp) ?_
                  refine AllReadyH.cons rfl (fun K hK => ?_) AllReadyH.nil
                  go_simp
                  refine hK.out _ _ trivial (fun _ => ?_)
                  clear hK K
                  refine wpAnyH_ready (rs := [5]) (by kernel_rfl) (by simp) ?_
                  refine AllReadyH.cons rfl (fun K hK => ?_) AllReadyH.nil
                  go_simp
                  refine hK.out _ _ trivial (fun _ => ?_)
                  clear hK K
                  refine wpAnyH_ready (rs := [6]) (by kernel_rfl) (by simp) ?_
                  refine AllReadyH.cons rfl (fun K hK => ?_) AllReadyH.nil
                  go_simp
                  refine hK.out _ _ trivial (fun _ => ?_)
                  clear hK K
                  refine wpAnyH_ready (rs := [7]) (by kernel_rfl) (by simp) ?_
                  refine AllReadyH.cons rfl (fun K hK => ?_) AllReadyH.nil
                  go_simp
                  refine hK.out _ _ trivial (fun _ => ?_)
                  clear hK K
                  refine wpAnyH_ready (rs := [8]) (by kernel_rfl) (by simp) ?_
                  refine AllReadyH.cons rfl (fun K hK => ?_) AllReadyH.nil
                  go_simp
                  refine hK.out _ _ trivial (fun _ => ?_)
                  clear hK K
                  refine wpAnyH_done (by kernel_rfl) ?_ _
                  go_wp2_with fail
                  go_roundg g'
                  case measure => omega
                  case rel => exact ⟨i + 1, acc ++ [(t1.1, t2.1, t3.1 == 1)], t3.2, sp, sn, s', by simp, by omega, HNX.out.1, by rw [List.length_append, List.map_append]; exact HNX.out.2.2 _ _ _ _ _ (by decide) O2.out, by rw [List.length_append, List.map_append]; exact HNX.out.2.2 _ _ _ _ _ (by decide) O3.out, by rw [List.length_append, List.map_append]; exact HNX.out.2.1, NX.out.1, by rw [List.length_append, NX.out.2]; rfl⟩
                · go_simp
                  refine hK.out _ _ trivial (fun _ => ?_)
                  clear hK K
                  refine wpAnyH_ready (rs := [1, 5]) (by kernel_rfl) (by simp) ?_
                  refine AllReadyH.cons rfl (fun K hK => ?_) (AllReadyH.cons rfl (fun K hK => ?_) AllReadyH.nil)
                  · go_simp
                    refine hK.out _ _ trivial (fun _ => ?_)
                    clear hK K
                    refine wpAnyH_ready (rs := [5]) (by kernel_rfl) (by simp) ?_
                    refine AllReadyH.cons rfl (fun K hK => ?_) AllReadyH.nil
                    go_simp
                    refine hK.out _ _ trivial (fun _ => ?_)
                    clear hK K
                    refine wpAnyH_ready (rs := [6]) (by kernel_rfl) (by simp) ?_
                    refine AllReadyH.cons rfl (fun K hK => ?_) AllReadyH.nil
                    go_simp
                    refine hK.out _ _ trivial (fun _ => ?_)
                    clear hK K
                    refine wpAnyH_ready (rs := [7]) (by kernel_rfl) (by simp) ?_
                    refine AllReadyH.cons rfl (fun K hK => ?_) AllReadyH.nil
                    go_simp
                    refine hK.out _ _ trivial (fun _ => ?_)
                    clear hK K
                    refine wpAnyH_ready (rs := [8]) (by kernel_rfl) (by simp) ?_
                    refine AllReadyH.cons rfl (fun K hK => ?_) AllReadyH.nil
                    go_simp
                    refine hK.out _ _ trivial (fun _ => ?_)
                    clear hK K
                    refine wpAnyH_done (by kernel_rfl) ?_ _
                    go_wp2_with fail
                    go_roundg g'
                    case measure => omega
                    case rel => exact ⟨i + 1, acc ++ [(t1.1, t2.1, t3.1 == 1)], t3.2, sp, sn, s', by simp, by omega, HNX.out.1, by rw [List.length_append, List.map_append]; exact HNX.out.2.2 _ _ _ _ _ (by decide) O2.out, by rw [List.length_append, List.map_append]; exact HNX.out.2.2 _ _ _ _ _ (by decide) O3.out, by rw [List.length_append, List.map_append]; exact HNX.out.2.1, NX.out.1, by rw [List.length_append, NX.out.2]; rfl⟩
                  · go_simp
                    refine hK.out _ _ trivial (fun _ => ?_)
                    clear hK K
                    refine wpAnyH_ready (rs := [1]) (by kernel_rfl) (by simp) ?_
                    refine AllReadyH.cons rfl (fun K hK => ?_) AllReadyH.nil
                    go_simp
                    refine hK.out _ _ trivial (fun _ => ?_)
                    clear hK K
                    refine wpAnyH_ready (rs := [6]) (by kernel_rfl) (by simp) ?_
                    refine AllReadyH.cons rfl (fun K hK => ?_) AllReadyH.nil
                    go_simp
                    refine hK.out _ _ trivial (fun _ => ?_)
                    clear hK K
                    refine wpAnyH_ready (rs := [7]) (by kernel_rfl) (by simp) ?_
                    refine AllReadyH.cons rfl (fun K hK => ?_) AllReadyH.nil
                    go_simp
                    refine hK.out _ _ trivial (fun _ => ?_)
                    clear hK K
                    refine wpAnyH_ready (rs := [8]) (by kernel_rfl) (by simp) ?_
                    refine AllReadyH.cons rfl (fun K hK => ?_) AllReadyH.nil
                    go_simp
                    refine hK.out _ _ trivial (fun _ => ?_)
                    clear hK K
                    refine wpAnyH_done (by kernel_rfl) ?_ _
                    go_wp2_with fail
                    go_roundg g'
                    case measure => omega
                    case rel => exact ⟨i + 1, acc ++ [(t1.1, t2.1, t3.1 == 1)], t3.2, sp, sn, s', by simp, by omega, HNX.out.1, by rw [List.length_append, List.map_append]; exact HNX.out.2.2 _ _ _ _ _ (by decide) O2.out, by rw [List.length_append, List.map_append]; exact HNX.out.2.2 _ _ _ _ _ (by decide) O3.out, by rw [List.length_append, List.map_append]; exact HNX.out.2.1, NX.out.1, by rw [List.length_append, NX.out.2]; rfl⟩
      case rest =>
        obtain ⟨acc4, sp4, sn4, se4, H4⟩ := hcut
        have A4 := hid_of H4.out.2
        have S4r := hid_of H4.out.1
        clear H4
        go_upto_block 6 with (first
          | (have hz := S5r; clear hz; go_at_call 17; refine (rnum_nat _ b len cap a f x5.2 S5r.out.rd 200 (by omega) (by omega)).mono ?_; rintro e w6 ⟨nn, rfl, HN⟩; have S6 := hid_of (S5r.out.read hbl HA.out HN.out.1 HN.out.2.1))
          | (go_at_call 17; refine (T5.out _ S4r.out.rd).mono ?_; rintro e w5i ⟨rfl, hr, hg⟩; obtain ⟨kc5, kf5, S5r⟩ := (S4r.out.read hbl HA.out hr hg).put (c' := ({ Oc.zero with nm := x0.1, key := x1.1, im := sl2, co := sl3, pr := sp4, na := sn4, ex := se4, ini := x5.1 } : Oc)) (j := 7) (v := .int .i64 x5.1) hbl HA.out rfl (Go.Joins.block_setCell (S4r.out.read hbl HA.out hr hg).bx _) ((S4r.out.read hbl HA.out hr hg).oo.ini_ x5.1); clear hr hg))
        clear S4r S5r kc5 kf5 T5
        have PL := hid_of (S6.out.pl hbl HA.out)
        have LB := hid_of HN.out.2.2
        have nb : nn ≤ 200 := by have := HN.out.2.2.2; omega
        clear HN
        go_cut [9] (fun s_ X => ∃ acc sl, Hid (SS w X b len cap a f { ({ Oc.zero with nm := x0.1, key := x1.1, im := sl2, co := sl3, pr := sp4, na := sn4, ex := se4, ini := x5.1 } : Oc) with va := sl } { (⟨x0.1, x1.1, acc2, acc3, acc4.map (·.1), acc4.map (·.2.1), acc4.map (·.2.2), x5.1, [], [], [], [], []⟩ : Ob) with vars := acc } x6.2 ∧ (x6.2.st = false → acc = x6.1)))
        case first =>
          obtain ⟨X0, hX0⟩ : ∃ X0, X0 = w6 := ⟨_, rfl⟩
          rw [← hX0] at S6 PL ⊢
          clear hX0
          have RR : Hid (x6 = loopS (numS f len 4294967295) nn [] (numS f len 200 x5.2).2) := hid_of (by rw [← E6.out, LB.out.1]; rfl)
          have LS : Hid (Lp (numS f len 4294967295) x6 nn [] (numS f len 200 x5.2).2) := hid_of (by rw [RR.out]; exact Lp.start _ _ _ fun e => by rw [LB.out.1, num_zero e]; rfl)
          clear RR LB
          generalize (numS f len 200 x5.2).2 = sa at *
          have L0 := hid_of (And.intro S6.out.li (own_nil X0 X0.heap.size 3 1))
          go_wp2_with fail
          go_loopg [9] nn (fun gf s_ wx => ∃ (i : Nat) (acc : List (Int)) (s : St) (sl : Sl), s_ = .int .i64 (i : Int) ∧ i + gf = nn ∧ Hid (LI X0 wx b len cap a f (w.heap.size + 1) w.heap.size { ({ Oc.zero with nm := x0.1, key := x1.1, im := sl2, co := sl3, pr := sp4, na := sn4, ex := se4, ini := x5.1 } : Oc) with va := sl } s ∧ wx.ownsRow X0.heap.size 3 1 (.slice sl.a sl.n sl.c) acc.length (acc.map (Value.int .i64)) ∧ Lp (numS f len 4294967295) x6 gf acc s ∧ acc.length = i))
          case atStart => exact ⟨0, [], sa, ⟨none, 0, 0⟩, rfl, by omega, L0.out.1, L0.out.2, LS.out, rfl⟩
          case round =>
            clear LS L0
            obtain ⟨i, acc, s, sl, rfl, hi, HL⟩ := hrel
            have cb := HL.out.1.rd.c2
            have FIN : Hid (gk = 0 ∨ s.st = true → ∃ acc sl, Hid (SS w wr b len cap a f { ({ Oc.zero with nm := x0.1, key := x1.1, im := sl2, co := sl3, pr := sp4, na := sn4, ex := se4, ini := x5.1 } : Oc) with va := sl } { (⟨x0.1, x1.1, acc2, acc3, acc4.map (·.1), acc4.map (·.2.1), acc4.map (·.2.2), x5.1, [], [], [], [], []⟩ : Ob) with vars := acc } x6.2 ∧ (x6.2.st = false → acc = x6.1))) := fun hm => by
              obtain ⟨l1, l2, l3, l4⟩ := HL.out
              obtain ⟨f1, f2⟩ := l3.fin hm
              refine ⟨acc, sl, ?_, fun e => (f2 (by rw [← f1]; exact e)).symm⟩
              rw [f1]
              exact S6.out.join hbl l1 (fun q => q.va_ sl acc (own_base l2 (by have := S6.out.bx.lt; omega)))
            by_cases hlt : i < nn
            rotate_left
            · have d1 : decide ((i : Int) < (nn : Int)) = false := decide_eq_false (by omega)
              have FF := hid_of (FIN.out (.inl (by omega)))
              clear FIN HL
              go_wp2
              go_meet
              exact FF.out
            have d1 : decide ((i : Int) < (nn : Int)) = true := decide_eq_true (by omega)
            obtain ⟨p, st⟩ := s
            cases st
            rotate_left
            · have d2 : decide ((p : Int) < 0) = false := decide_eq_false (by omega)
              rw [bad_stuck] at cb
              have FF := hid_of (FIN.out (.inr rfl))
              clear FIN HL
              go_wp2
              go_meet
              exact FF.out
            rw [bad_live] at cb
            obtain ⟨g', rfl⟩ : ∃ g', gk = g' + 1 := ⟨gk - 1, by omega⟩
            clear FIN
            have LD := hid_of (And.intro HL.out.1.drew (own_drew HL.out.2.1))
            have NX := hid_of (And.intro (HL.out.2.2.1.next rfl) HL.out.2.2.2)
            have TR : Hid (∀ X, DRd X b a len cap f ⟨p, false⟩ → Calls Try.prog 17 #[.pointer (some ⟨b, 0, none⟩), .int .i64 4294967295] X (PostV X b a len cap f (.int .i64 (numS f len 4294967295 ⟨p, false⟩).1) (numS f len 4294967295 ⟨p, false⟩).2)) := fun X hX => rnumber_of X b len cap a f _ hX 4294967295 (by omega) (by omega)
            have cD : wr.drew.cell? ⟨w.heap.size + 1, 8, none⟩ = some (.slice sl.a sl.n sl.c) := blk_cell LD.out.1.bx 8
            clear HL
            generalize numS f len 4294967295 ⟨p, false⟩ = t1 at *
            have AP : Hid (∀ X, LI X0 X b len cap a f (w.heap.size + 1) w.heap.size { ({ Oc.zero with nm := x0.1, key := x1.1, im := sl2, co := sl3, pr := sp4, na := sn4, ex := se4, ini := x5.1 } : Oc) with va := sl } t1.2 → X.ownsRow X0.heap.size 3 1 (.slice sl.a sl.n sl.c) acc.length (acc.map (Value.int .i64)) → _) := fun X hX ho => by
              obtain ⟨i0, hi0, hz0, hz1, hz2⟩ := info_parts info_int
              exact hX.app (j := 8) (c' := fun s' => { ({ Oc.zero with nm := x0.1, key := x1.1, im := sl2, co := sl3, pr := sp4, na := sn4, ex := se4, ini := x5.1 } : Oc) with va := s' }) PL.out Try.underlying27 hi0 hz0 hz1 hz2 rfl (by omega) (by omega) #[.int .i64 t1.1] rfl (by intro u hu; simp at hu; subst hu; rfl) ho (by have := NX.out.2; omega) rfl (fun Y s' hY => Go.Joins.block_setCell hY _)
            go_wp2
            refine wp_region_held_drew (S := (fun _ => True)) (by kernel_rfl) trivial (fun hHeld => ?_)
            refine wpAnyH_take (i := 0) (v := ?_) rfl (by kernel_rfl) (by kernel_rfl) (by kernel_rfl) (fun _ _ _ h => h) (Or.inl ⟨by kernel_rfl, ?y0va⟩) hHeld ?r0va
            case y0va => (intro wq hSw; go_simp; try rfl)
            simp only [Act.put, List.setIfInBounds_toArray, List.set_cons_zero, List.set_cons_succ]
            refine wpAnyH_take (i := 2) (v := ?_) rfl (by kernel_rfl) (by kernel_rfl) (by kernel_rfl) (fun _ _ _ h => h) (Or.inl ⟨by kernel_rfl, ?y2va⟩) hHeld ?r2va
            case y2va => (intro wq hSw; go_simp; try rfl)
            simp only [Act.put, List.setIfInBounds_toArray, List.set_cons_zero, List.set_cons_succ]
            refine wpAnyH_ready (rs := [1, 3]) (by kernel_rfl) (by simp) ?_
            refine AllReadyH.cons rfl (fun K hK => ?_) (AllReadyH.cons rfl (fun K hK => ?_) AllReadyH.nil)
            · go_simp
              refine hK.out _ _ trivial (fun _ => ?_)
              clear hK K
              refine wpAnyH_ready (rs := [3]) (by kernel_rfl) (by simp) ?_
              refine AllReadyH.cons rfl (fun K hK => ?_) AllReadyH.nil
              go_simp
              go_wp2_with (go_at_call 17; refine (TR.out _ LD.out.1.rd).mono ?_; rintro e w5 ⟨rfl, hr, hg⟩; obtain ⟨s', Y, hrun, cY, fY, cX, cA, HNX⟩ := AP.out w5 (LD.out.1.read PL.out hr hg) (own_read LD.out.2 PL.out hg); clear hr hg)
              refine hK.out _ _ trivial (fun _ => ?_)
              clear hK K
              refine wpAnyH_ready (rs := [4]) (by kernel_rfl) (by simp) ?_
              refine AllReadyH.cons rfl (fun K hK => ?_) AllReadyH.nil
              go_simp
              refine hK.out _ _ trivial (fun _ => ?_)
              clear hK K
              refine wpAnyH_ready (rs := [5]) (by kernel_rfl) (by simp) ?_
              refine AllReadyH.cons rfl (fun K hK => ?_) AllReadyH.nil
              go_simp
              refine hK.out _ _ trivial (fun _ => ?_)
              clear hK K
              refine wpAnyH_ready (rs := [6]) (by kernel_rfl) (by simp) ?_
              refine AllReadyH.cons rfl (fun K hK => ?_) AllReadyH.nil
              go_simp
              refine hK.out _ _ trivial (fun _ => ?_)
              clear hK K
              refine wpAnyH_ready (rs := [7]) (by kernel_rfl) (by simp) ?_
              refine AllReadyH.cons rfl (fun K hK => ?_) AllReadyH.nil
              go_simp
              refine hK.out _ _ trivial (fun _ => ?_)
              clear hK K
              refine wpAnyH_done (by kernel_rfl) ?_ _
              go_wp2_with fail
              go_roundg g'
              case measure => omega
              case rel => exact ⟨i + 1, acc ++ [t1.1], t1.2, s', by simp, by omega, HNX.out.1, by rw [List.length_append, List.map_append]; exact HNX.out.2.1, NX.out.1, by rw [List.length_append, NX.out.2]; rfl⟩
            · go_simp
              go_wp2_with (go_at_call 17; refine (TR.out _ LD.out.1.rd).mono ?_; rintro e w5 ⟨rfl, hr, hg⟩; obtain ⟨s', Y, hrun, cY, fY, cX, cA, HNX⟩ := AP.out w5 (LD.out.1.read PL.out hr hg) (own_read LD.out.2 PL.out hg); clear hr hg)
              refine hK.out _ _ trivial (fun _ => ?_)
              clear hK K
              refine wpAnyH_ready (rs := [1, 4]) (by kernel_rfl) (by simp) ?_
              refine AllReadyH.cons rfl (fun K hK => ?_) (AllReadyH.cons rfl (fun K hK => ?_) AllReadyH.nil)
              · go_simp
                refine hK.out _ _ trivial (fun _ => ?_)
                clear hK K
                refine wpAnyH_ready (rs := [4]) (by kernel_rfl) (by simp) ?_
                refine AllReadyH.cons rfl (fun K hK => ?_) AllReadyH.nil
                go_simp
                refine hK.out _ _ trivial (fun _ => ?_)
                clear hK K
                refine wpAnyH_ready (rs := [5]) (by kernel_rfl) (by simp) ?_
                refine AllReadyH.cons rfl (fun K hK => ?_) AllReadyH.nil
                go_simp
                refine hK.out _ _ trivial (fun _ => ?_)
                clear hK K
                refine wpAnyH_ready (rs := [6]) (by kernel_rfl) (by simp) ?_
                refine AllReadyH.cons rfl (fun K hK => ?_) AllReadyH.nil
                go_simp
                refine hK.out _ _ trivial (fun _ => ?_)
                clear hK K
                refine wpAnyH_ready (rs := [7]) (by kernel_rfl) (by simp) ?_
                refine AllReadyH.cons rfl (fun K hK => ?_) AllReadyH.nil
                go_simp
                refine hK.out _ _ trivial (fun _ => ?_)
                clear hK K
                refine wpAnyH_done (by kernel_rfl) ?_ _
                go_wp2_with fail
                go_roundg g'
                case measure => omega
                case rel => exact ⟨i + 1, acc ++ [t1.1], t1.2, s', by simp, by omega, HNX.out.1, by rw [List.length_append, List.map_append]; exact HNX.out.2.1, NX.out.1, by rw [List.length_append, NX.out.2]; rfl⟩
              · go_simp
                refine hK.out _ _ trivial (fun _ => ?_)
                clear hK K
                refine wpAnyH_ready (rs := [1]) (by kernel_rfl) (by simp) ?_
                refine AllReadyH.cons rfl (fun K hK => ?_) AllReadyH.nil
                go_simp
                refine hK.out _ _ trivial (fun _ => ?_)
                clear hK K
                refine wpAnyH_ready (rs := [5]) (by kernel_rfl) (by simp) ?_
                refine AllReadyH.cons rfl (fun K hK => ?_) AllReadyH.nil
                go_simp
                refine hK.out _ _ trivial (fun _ => ?_)
                clear hK K
                refine wpAnyH_ready (rs := [6]) (by kernel_rfl) (by simp) ?_
                refine AllReadyH.cons rfl (fun K hK => ?_) AllReadyH.nil
                go_simp
                refine hK.out _ _ trivial (fun _ => ?_)
                clear hK K
                refine wpAnyH_ready (rs := [7]) (by kernel_rfl) (by simp) ?_
                refine AllReadyH.cons rfl (fun K hK => ?_) AllReadyH.nil
                go_simp
                refine hK.out _ _ trivial (fun _ => ?_)
                clear hK K
                refine wpAnyH_done (by kernel_rfl) ?_ _
                go_wp2_with fail
                go_roundg g'
                case measure => omega
                case rel => exact ⟨i + 1, acc ++ [t1.1], t1.2, s', by simp, by omega, HNX.out.1, by rw [List.length_append, List.map_append]; exact HNX.out.2.1, NX.out.1, by rw [List.length_append, NX.out.2]; rfl⟩
        case rest =>
          obtain ⟨acc6, sl6, H6⟩ := hcut
          have A6 := hid_of H6.out.2
          have S6r := hid_of H6.out.1
          clear H6
          go_upto_block 8 with (go_at_call 17; refine (rnum_nat _ b len cap a f x6.2 S6r.out.rd 200 (by omega) (by omega)).mono ?_; rintro e w7 ⟨nn, rfl, HN⟩; have S7 := hid_of (S6r.out.read hbl HA.out HN.out.1 HN.out.2.1))
          clear S6r
          have PL := hid_of (S7.out.pl hbl HA.out)
          have LB := hid_of HN.out.2.2
          have nb : nn ≤ 200 := by have := HN.out.2.2.2; omega
          clear HN
          go_cut [10] (fun s_ X => ∃ acc sl, Hid (SS w X b len cap a f { ({ Oc.zero with nm := x0.1, key := x1.1, im := sl2, co := sl3, pr := sp4, na := sn4, ex := se4, ini := x5.1, va := sl6 } : Oc) with sh := sl } { (⟨x0.1, x1.1, acc2, acc3, acc4.map (·.1), acc4.map (·.2.1), acc4.map (·.2.2), x5.1, acc6, [], [], [], []⟩ : Ob) with shown := acc } x7.2 ∧ (x7.2.st = false → acc = x7.1)))
          case first =>
            obtain ⟨X0, hX0⟩ : ∃ X0, X0 = w7 := ⟨_, rfl⟩
            rw [← hX0] at S7 PL ⊢
            clear hX0
            have RR : Hid (x7 = loopS (numS f len 4294967295) nn [] (numS f len 200 x6.2).2) := hid_of (by rw [← E7.out, LB.out.1]; rfl)
            have LS : Hid (Lp (numS f len 4294967295) x7 nn [] (numS f len 200 x6.2).2) := hid_of (by rw [RR.out]; exact Lp.start _ _ _ fun e => by rw [LB.out.1, num_zero e]; rfl)
            clear RR LB
            generalize (numS f len 200 x6.2).2 = sa at *
            have L0 := hid_of (And.intro S7.out.li (own_nil X0 X0.heap.size 3 1))
            go_wp2_with fail
            go_loopg [10] nn (fun gf s_ wx => ∃ (i : Nat) (acc : List (Int)) (s : St) (sl : Sl), s_ = .int .i64 (i : Int) ∧ i + gf = nn ∧ Hid (LI X0 wx b len cap a f (w.heap.size + 1) w.heap.size { ({ Oc.zero with nm := x0.1, key := x1.1, im := sl2, co := sl3, pr := sp4, na := sn4, ex := se4, ini := x5.1, va := sl6 } : Oc) with sh := sl } s ∧ wx.ownsRow X0.heap.size 3 1 (.slice sl.a sl.n sl.c) acc.length (acc.map (Value.int .i64)) ∧ Lp (numS f len 4294967295) x7 gf acc s ∧ acc.length = i))
            case atStart => exact ⟨0, [], sa, ⟨none, 0, 0⟩, rfl, by omega, L0.out.1, L0.out.2, LS.out, rfl⟩
            case round =>
              clear LS L0
              obtain ⟨i, acc, s, sl, rfl, hi, HL⟩ := hrel
              have cb := HL.out.1.rd.c2
              have FIN : Hid (gk = 0 ∨ s.st = true → ∃ acc sl, Hid (SS w wr b len cap a f { ({ Oc.zero with nm := x0.1, key := x1.1, im := sl2, co := sl3, pr := sp4, na := sn4, ex := se4, ini := x5.1, va := sl6 } : Oc) with sh := sl } { (⟨x0.1, x1.1, acc2, acc3, acc4.map (·.1), acc4.map (·.2.1), acc4.map (·.2.2), x5.1, acc6, [], [], [], []⟩ : Ob) with shown := acc } x7.2 ∧ (x7.2.st = false → acc = x7.1))) := fun hm => by
                obtain ⟨l1, l2, l3, l4⟩ := HL.out
                obtain ⟨f1, f2⟩ := l3.fin hm
                refine ⟨acc, sl, ?_, fun e => (f2 (by rw [← f1]; exact e)).symm⟩
                rw [f1]
                exact S7.out.join hbl l1 (fun q => q.sh_ sl acc (own_base l2 (by have := S7.out.bx.lt; omega)))
              by_cases hlt : i < nn
              rotate_left
              · have d1 : decide ((i : Int) < (nn : Int)) = false := decide_eq_false (by omega)
                have FF := hid_of (FIN.out (.inl (by omega)))
                clear FIN HL
                go_wp2
                go_meet
                exact FF.out
              have d1 : decide ((i : Int) < (nn : Int)) = true := decide_eq_true (by omega)
              obtain ⟨p, st⟩ := s
              cases st
              rotate_left
              · have d2 : decide ((p : Int) < 0) = false := decide_eq_false (by omega)
                rw [bad_stuck] at cb
                have FF := hid_of (FIN.out (.inr rfl))
                clear FIN HL
                go_wp2
                go_meet
                exact FF.out
              rw [bad_live] at cb
              obtain ⟨g', rfl⟩ : ∃ g', gk = g' + 1 := ⟨gk - 1, by omega⟩
              clear FIN
              have LD := hid_of (And.intro HL.out.1.drew (own_drew HL.out.2.1))
              have NX := hid_of (And.intro (HL.out.2.2.1.next rfl) HL.out.2.2.2)
              have TR : Hid (∀ X, DRd X b a len cap f ⟨p, false⟩ → Calls Try.prog 17 #[.pointer (some ⟨b, 0, none⟩), .int .i64 4294967295] X (PostV X b a len cap f (.int .i64 (numS f len 4294967295 ⟨p, false⟩).1) (numS f len 4294967295 ⟨p, false⟩).2)) := fun X hX => rnumber_of X b len cap a f _ hX 4294967295 (by omega) (by omega)
              have cD : wr.drew.cell? ⟨w.heap.size + 1, 9, none⟩ = some (.slice sl.a sl.n sl.c) := blk_cell LD.out.1.bx 9
              clear HL
              generalize numS f len 4294967295 ⟨p, false⟩ = t1 at *
              have AP : Hid (∀ X, LI X0 X b len cap a f (w.heap.size + 1) w.heap.size { ({ Oc.zero with nm := x0.1, key := x1.1, im := sl2, co := sl3, pr := sp4, na := sn4, ex := se4, ini := x5.1, va := sl6 } : Oc) with sh := sl } t1.2 → X.ownsRow X0.heap.size 3 1 (.slice sl.a sl.n sl.c) acc.length (acc.map (Value.int .i64)) → _) := fun X hX ho => by
                obtain ⟨i0, hi0, hz0, hz1, hz2⟩ := info_parts info_int
                exact hX.app (j := 9) (c' := fun s' => { ({ Oc.zero with nm := x0.1, key := x1.1, im := sl2, co := sl3, pr := sp4, na := sn4, ex := se4, ini := x5.1, va := sl6 } : Oc) with sh := s' }) PL.out Try.underlying27 hi0 hz0 hz1 hz2 rfl (by omega) (by omega) #[.int .i64 t1.1] rfl (by intro u hu; simp at hu; subst hu; rfl) ho (by have := NX.out.2; omega) rfl (fun Y s' hY => Go.Joins.block_setCell hY _)
              go_wp2
              refine wp_region_held_drew (S := (fun _ => True)) (by kernel_rfl) trivial (fun hHeld => ?_)
              refine wpAnyH_take (i := 0) (v := ?_) rfl (by kernel_rfl) (by kernel_rfl) (by kernel_rfl) (fun _ _ _ h => h) (Or.inl ⟨by kernel_rfl, ?y0sh⟩) hHeld ?r0sh
              case y0sh => (intro wq hSw; go_simp; try rfl)
              simp only [Act.put, List.setIfInBounds_toArray, List.set_cons_zero, List.set_cons_succ]
              refine wpAnyH_take (i := 2) (v := ?_) rfl (by kernel_rfl) (by kernel_rfl) (by kernel_rfl) (fun _ _ _ h => h) (Or.inl ⟨by kernel_rfl, ?y2sh⟩) hHeld ?r2sh
              case y2sh => (intro wq hSw; go_simp; try rfl)
              simp only [Act.put, List.setIfInBounds_toArray, List.set_cons_zero, List.set_cons_succ]
              refine wpAnyH_ready (rs := [1, 3]) (by kernel_rfl) (by simp) ?_
              refine AllReadyH.cons rfl (fun K hK => ?_) (AllReadyH.cons rfl (fun K hK => ?_) AllReadyH.nil)
              · go_simp
                refine hK.out _ _ trivial (fun _ => ?_)
                clear hK K
                refine wpAnyH_ready (rs := [3]) (by kernel_rfl) (by simp) ?_
                refine AllReadyH.cons rfl (fun K hK => ?_) AllReadyH.nil
                go_simp
                go_wp2_with (go_at_call 17; refine (TR.out _ LD.out.1.rd).mono ?_; rintro e w5 ⟨rfl, hr, hg⟩; obtain ⟨s', Y, hrun, cY, fY, cX, cA, HNX⟩ := AP.out w5 (LD.out.1.read PL.out hr hg) (own_read LD.out.2 PL.out hg); clear hr hg)
                refine hK.out _ _ trivial (fun _ => ?_)
                clear hK K
                refine wpAnyH_ready (rs := [4]) (by kernel_rfl) (by simp) ?_
                refine AllReadyH.cons rfl (fun K hK => ?_) AllReadyH.nil
                go_simp
                refine hK.out _ _ trivial (fun _ => ?_)
                clear hK K
                refine wpAnyH_ready (rs := [5]) (by kernel_rfl) (by simp) ?_
                refine AllReadyH.cons rfl (fun K hK => ?_) AllReadyH.nil
                go_simp
                refine hK.out _ _ trivial (fun _ => ?_)
                clear hK K
                refine wpAnyH_ready (rs := [6]) (by kernel_rfl) (by simp) ?_
                refine AllReadyH.cons rfl (fun K hK => ?_) AllReadyH.nil
                go_simp
                refine hK.out _ _ trivial (fun _ => ?_)
                clear hK K
                refine wpAnyH_ready (rs := [7]) (by kernel_rfl) (by simp) ?_
                refine AllReadyH.cons rfl (fun K hK => ?_) AllReadyH.nil
                go_simp
                refine hK.out _ _ trivial (fun _ => ?_)
                clear hK K
                refine wpAnyH_done (by kernel_rfl) ?_ _
                go_wp2_with fail
                go_roundg g'
                case measure => omega
                case rel => exact ⟨i + 1, acc ++ [t1.1], t1.2, s', by simp, by omega, HNX.out.1, by rw [List.length_append, List.map_append]; exact HNX.out.2.1, NX.out.1, by rw [List.length_append, NX.out.2]; rfl⟩
              · go_simp
                go_wp2_with (go_at_call 17; refine (TR.out _ LD.out.1.rd).mono ?_; rintro e w5 ⟨rfl, hr, hg⟩; obtain ⟨s', Y, hrun, cY, fY, cX, cA, HNX⟩ := AP.out w5 (LD.out.1.read PL.out hr hg) (own_read LD.out.2 PL.out hg); clear hr hg)
                refine hK.out _ _ trivial (fun _ => ?_)
                clear hK K
                refine wpAnyH_ready (rs := [1, 4]) (by kernel_rfl) (by simp) ?_
                refine AllReadyH.cons rfl (fun K hK => ?_) (AllReadyH.cons rfl (fun K hK => ?_) AllReadyH.nil)
                · go_simp
                  refine hK.out _ _ trivial (fun _ => ?_)
                  clear hK K
                  refine wpAnyH_ready (rs := [4]) (by kernel_rfl) (by simp) ?_
                  refine AllReadyH.cons rfl (fun K hK => ?_) AllReadyH.nil
                  go_simp
                  refine hK.out _ _ trivial (fun _ => ?_)
                  clear hK K
                  refine wpAnyH_ready (rs := [5]) (by kernel_rfl) (by simp) ?_
                  refine AllReadyH.cons rfl (fun K hK => ?_) AllReadyH.nil
                  go_simp
                  refine hK.out _ _ trivial (fun _ => ?_)
                  clear hK K
                  refine wpAnyH_ready (rs := [6]) (by kernel_rfl) (by simp) ?_
                  refine AllReadyH.cons rfl (fun K hK => ?_) AllReadyH.nil
                  go_simp
                  refine hK.out _ _ trivial (fun _ => ?_)
                  clear hK K
                  refine wpAnyH_ready (rs := [7]) (by kernel_rfl) (by simp) ?_
                  refine AllReadyH.cons rfl (fun K hK => ?_) AllReadyH.nil
                  go_simp
                  refine hK.out _ _ trivial (fun _ => ?_)
                  clear hK K
                  refine wpAnyH_done (by kernel_rfl) ?_ _
                  go_wp2_with fail
                  go_roundg g'
                  case measure => omega
                  case rel => exact ⟨i + 1, acc ++ [t1.1], t1.2, s', by simp, by omega, HNX.out.1, by rw [List.length_append, List.map_append]; exact HNX.out.2.1, NX.out.1, by rw [List.length_append, NX.out.2]; rfl⟩
                · go_simp
                  refine hK.out _ _ trivial (fun _ => ?_)
                  clear hK K
                  refine wpAnyH_ready (rs := [1]) (by kernel_rfl) (by simp) ?_
                  refine AllReadyH.cons rfl (fun K hK => ?_) AllReadyH.nil
                  go_simp
                  refine hK.out _ _ trivial (fun _ => ?_)
                  clear hK K
                  refine wpAnyH_ready (rs := [5]) (by kernel_rfl) (by simp) ?_
                  refine AllReadyH.cons rfl (fun K hK => ?_) AllReadyH.nil
                  go_simp
                  refine hK.out _ _ trivial (fun _ => ?_)
                  clear hK K
                  refine wpAnyH_ready (rs := [6]) (by kernel_rfl) (by simp) ?_
                  refine AllReadyH.cons rfl (fun K hK => ?_) AllReadyH.nil
                  go_simp
                  refine hK.out _ _ trivial (fun _ => ?_)
                  clear hK K
                  refine wpAnyH_ready (rs := [7]) (by kernel_rfl) (by simp) ?_
                  refine AllReadyH.cons rfl (fun K hK => ?_) AllReadyH.nil
                  go_simp
                  refine hK.out _ _ trivial (fun _ => ?_)
                  clear hK K
                  refine wpAnyH_done (by kernel_rfl) ?_ _
                  go_wp2_with fail
                  go_roundg g'
                  case measure => omega
                  case rel => exact ⟨i + 1, acc ++ [t1.1], t1.2, s', by simp, by omega, HNX.out.1, by rw [List.length_append, List.map_append]; exact HNX.out.2.1, NX.out.1, by rw [List.length_append, NX.out.2]; rfl⟩
          case rest =>
            obtain ⟨acc7, sl7, H7⟩ := hcut
            have A7 := hid_of H7.out.2
            have S7r := hid_of H7.out.1
            clear H7
            go_upto_block 10 with (go_at_call 17; refine (rnum_nat _ b len cap a f x7.2 S7r.out.rd 200 (by omega) (by omega)).mono ?_; rintro e w8 ⟨nn, rfl, HN⟩; have S8 := hid_of (S7r.out.read hbl HA.out HN.out.1 HN.out.2.1))
            clear S7r
            have PL := hid_of (S8.out.pl hbl HA.out)
            have LB := hid_of HN.out.2.2
            have nb : nn ≤ 200 := by have := HN.out.2.2.2; omega
            clear HN
            go_cut [11] (fun s_ X => ∃ acc sl, Hid (SS w X b len cap a f { ({ Oc.zero with nm := x0.1, key := x1.1, im := sl2, co := sl3, pr := sp4, na := sn4, ex := se4, ini := x5.1, va := sl6, sh := sl7 } : Oc) with st := sl } { (⟨x0.1, x1.1, acc2, acc3, acc4.map (·.1), acc4.map (·.2.1), acc4.map (·.2.2), x5.1, acc6, acc7, [], [], []⟩ : Ob) with strs := acc } x8.2 ∧ (x8.2.st = false → acc = x8.1)))
            case first =>
              obtain ⟨X0, hX0⟩ : ∃ X0, X0 = w8 := ⟨_, rfl⟩
              rw [← hX0] at S8 PL ⊢
              clear hX0
              have RR : Hid (x8 = loopS (textS f len 200) nn [] (numS f len 200 x7.2).2) := hid_of (by rw [← E8.out, LB.out.1]; rfl)
              have LS : Hid (Lp (textS f len 200) x8 nn [] (numS f len 200 x7.2).2) := hid_of (by rw [RR.out]; exact Lp.start _ _ _ fun e => by rw [LB.out.1, num_zero e]; rfl)
              clear RR LB
              generalize (numS f len 200 x7.2).2 = sa at *
              have L0 := hid_of (And.intro S8.out.li (own_nil X0 X0.heap.size 9 1))
              go_wp2_with fail
              go_loopg [11] nn (fun gf s_ wx => ∃ (i : Nat) (acc : List (ByteArray)) (s : St) (sl : Sl), s_ = .int .i64 (i : Int) ∧ i + gf = nn ∧ Hid (LI X0 wx b len cap a f (w.heap.size + 1) w.heap.size { ({ Oc.zero with nm := x0.1, key := x1.1, im := sl2, co := sl3, pr := sp4, na := sn4, ex := se4, ini := x5.1, va := sl6, sh := sl7 } : Oc) with st := sl } s ∧ wx.ownsRow X0.heap.size 9 1 (.slice sl.a sl.n sl.c) acc.length (acc.map Value.string) ∧ Lp (textS f len 200) x8 gf acc s ∧ acc.length = i))
              case atStart => exact ⟨0, [], sa, ⟨none, 0, 0⟩, rfl, by omega, L0.out.1, L0.out.2, LS.out, rfl⟩
              case round =>
                clear LS L0
                obtain ⟨i, acc, s, sl, rfl, hi, HL⟩ := hrel
                have cb := HL.out.1.rd.c2
                have FIN : Hid (gk = 0 ∨ s.st = true → ∃ acc sl, Hid (SS w wr b len cap a f { ({ Oc.zero with nm := x0.1, key := x1.1, im := sl2, co := sl3, pr := sp4, na := sn4, ex := se4, ini := x5.1, va := sl6, sh := sl7 } : Oc) with st := sl } { (⟨x0.1, x1.1, acc2, acc3, acc4.map (·.1), acc4.map (·.2.1), acc4.map (·.2.2), x5.1, acc6, acc7, [], [], []⟩ : Ob) with strs := acc } x8.2 ∧ (x8.2.st = false → acc = x8.1))) := fun hm => by
                  obtain ⟨l1, l2, l3, l4⟩ := HL.out
                  obtain ⟨f1, f2⟩ := l3.fin hm
                  refine ⟨acc, sl, ?_, fun e => (f2 (by rw [← f1]; exact e)).symm⟩
                  rw [f1]
                  exact S8.out.join hbl l1 (fun q => q.st_ sl acc (own_base l2 (by have := S8.out.bx.lt; omega)))
                by_cases hlt : i < nn
                rotate_left
                · have d1 : decide ((i : Int) < (nn : Int)) = false := decide_eq_false (by omega)
                  have FF := hid_of (FIN.out (.inl (by omega)))
                  clear FIN HL
                  go_wp2
                  go_meet
                  exact FF.out
                have d1 : decide ((i : Int) < (nn : Int)) = true := decide_eq_true (by omega)
                obtain ⟨p, st⟩ := s
                cases st
                rotate_left
                · have d2 : decide ((p : Int) < 0) = false := decide_eq_false (by omega)
                  rw [bad_stuck] at cb
                  have FF := hid_of (FIN.out (.inr rfl))
                  clear FIN HL
                  go_wp2
                  go_meet
                  exact FF.out
                rw [bad_live] at cb
                obtain ⟨g', rfl⟩ : ∃ g', gk = g' + 1 := ⟨gk - 1, by omega⟩
                clear FIN
                have LD := hid_of (And.intro HL.out.1.drew (own_drew HL.out.2.1))
                have NX := hid_of (And.intro (HL.out.2.2.1.next rfl) HL.out.2.2.2)
                have TR : Hid (∀ X, DRd X b a len cap f ⟨p, false⟩ → Calls Try.prog 48 #[.pointer (some ⟨b, 0, none⟩), .int .i64 200] X (PostV X b a len cap f (.string (textS f len 200 ⟨p, false⟩).1) (textS f len 200 ⟨p, false⟩).2)) := fun X hX => rtext_of X b len cap a f _ hX 200 (by omega) (by omega)
                have cD : wr.drew.cell? ⟨w.heap.size + 1, 10, none⟩ = some (.slice sl.a sl.n sl.c) := blk_cell LD.out.1.bx 10
                clear HL
                generalize textS f len 200 ⟨p, false⟩ = t1 at *
                have AP : Hid (∀ X, LI X0 X b len cap a f (w.heap.size + 1) w.heap.size { ({ Oc.zero with nm := x0.1, key := x1.1, im := sl2, co := sl3, pr := sp4, na := sn4, ex := se4, ini := x5.1, va := sl6, sh := sl7 } : Oc) with st := sl } t1.2 → X.ownsRow X0.heap.size 9 1 (.slice sl.a sl.n sl.c) acc.length (acc.map (Value.string)) → _) := fun X hX ho => by
                  obtain ⟨i0, hi0, hz0, hz1, hz2⟩ := info_parts info_str
                  exact hX.app (j := 10) (c' := fun s' => { ({ Oc.zero with nm := x0.1, key := x1.1, im := sl2, co := sl3, pr := sp4, na := sn4, ex := se4, ini := x5.1, va := sl6, sh := sl7 } : Oc) with st := s' }) PL.out Try.underlying28 hi0 hz0 hz1 hz2 rfl (by omega) (by omega) #[.string t1.1] rfl (by intro u hu; simp at hu; subst hu; rfl) ho (by have := NX.out.2; omega) rfl (fun Y s' hY => Go.Joins.block_setCell hY _)
                go_wp2
                refine wp_region_held_drew (S := (fun _ => True)) (by kernel_rfl) trivial (fun hHeld => ?_)
                refine wpAnyH_take (i := 0) (v := ?_) rfl (by kernel_rfl) (by kernel_rfl) (by kernel_rfl) (fun _ _ _ h => h) (Or.inl ⟨by kernel_rfl, ?y0st⟩) hHeld ?r0st
                case y0st => (intro wq hSw; go_simp; try rfl)
                simp only [Act.put, List.setIfInBounds_toArray, List.set_cons_zero, List.set_cons_succ]
                refine wpAnyH_take (i := 2) (v := ?_) rfl (by kernel_rfl) (by kernel_rfl) (by kernel_rfl) (fun _ _ _ h => h) (Or.inl ⟨by kernel_rfl, ?y2st⟩) hHeld ?r2st
                case y2st => (intro wq hSw; go_simp; try rfl)
                simp only [Act.put, List.setIfInBounds_toArray, List.set_cons_zero, List.set_cons_succ]
                refine wpAnyH_ready (rs := [1, 3]) (by kernel_rfl) (by simp) ?_
                refine AllReadyH.cons rfl (fun K hK => ?_) (AllReadyH.cons rfl (fun K hK => ?_) AllReadyH.nil)
                · go_simp
                  refine hK.out _ _ trivial (fun _ => ?_)
                  clear hK K
                  refine wpAnyH_ready (rs := [3]) (by kernel_rfl) (by simp) ?_
                  refine AllReadyH.cons rfl (fun K hK => ?_) AllReadyH.nil
                  go_simp
                  go_wp2_with (go_at_call 48; refine (TR.out _ LD.out.1.rd).mono ?_; rintro e w5 ⟨rfl, hr, hg⟩; obtain ⟨s', Y, hrun, cY, fY, cX, cA, HNX⟩ := AP.out w5 (LD.out.1.read PL.out hr hg) (own_read LD.out.2 PL.out hg); clear hr hg)
                  refine hK.out _ _ trivial (fun _ => ?_)
                  clear hK K
                  refine wpAnyH_ready (rs := [4]) (by kernel_rfl) (by simp) ?_
                  refine AllReadyH.cons rfl (fun K hK => ?_) AllReadyH.nil
                  go_simp
                  refine hK.out _ _ trivial (fun _ => ?_)
                  clear hK K
                  refine wpAnyH_ready (rs := [5]) (by kernel_rfl) (by simp) ?_
                  refine AllReadyH.cons rfl (fun K hK => ?_) AllReadyH.nil
                  go_simp
                  refine hK.out _ _ trivial (fun _ => ?_)
                  clear hK K
                  refine wpAnyH_ready (rs := [6]) (by kernel_rfl) (by simp) ?_
                  refine AllReadyH.cons rfl (fun K hK => ?_) AllReadyH.nil
                  go_simp
                  refine hK.out _ _ trivial (fun _ => ?_)
                  clear hK K
                  refine wpAnyH_ready (rs := [7]) (by kernel_rfl) (by simp) ?_
                  refine AllReadyH.cons rfl (fun K hK => ?_) AllReadyH.nil
                  go_simp
                  refine hK.out _ _ trivial (fun _ => ?_)
                  clear hK K
                  refine wpAnyH_done (by kernel_rfl) ?_ _
                  go_wp2_with fail
                  go_roundg g'
                  case measure => omega
                  case rel => exact ⟨i + 1, acc ++ [t1.1], t1.2, s', by simp, by omega, HNX.out.1, by rw [List.length_append, List.map_append]; exact HNX.out.2.1, NX.out.1, by rw [List.length_append, NX.out.2]; rfl⟩
                · go_simp
                  go_wp2_with (go_at_call 48; refine (TR.out _ LD.out.1.rd).mono ?_; rintro e w5 ⟨rfl, hr, hg⟩; obtain ⟨s', Y, hrun, cY, fY, cX, cA, HNX⟩ := AP.out w5 (LD.out.1.read PL.out hr hg) (own_read LD.out.2 PL.out hg); clear hr hg)
                  refine hK.out _ _ trivial (fun _ => ?_)
                  clear hK K
                  refine wpAnyH_ready (rs := [1, 4]) (by kernel_rfl) (by simp) ?_
                  refine AllReadyH.cons rfl (fun K hK => ?_) (AllReadyH.cons rfl (fun K hK => ?_) AllReadyH.nil)
                  · go_simp
                    refine hK.out _ _ trivial (fun _ => ?_)
                    clear hK K
                    refine wpAnyH_ready (rs := [4]) (by kernel_rfl) (by simp) ?_
                    refine AllReadyH.cons rfl (fun K hK => ?_) AllReadyH.nil
                    go_simp
                    refine hK.out _ _ trivial (fun _ => ?_)
                    clear hK K
                    refine wpAnyH_ready (rs := [5]) (by kernel_rfl) (by simp) ?_
                    refine AllReadyH.cons rfl (fun K hK => ?_) AllReadyH.nil
                    go_simp
                    refine hK.out _ _ trivial (fun _ => ?_)
                    clear hK K
                    refine wpAnyH_ready (rs := [6]) (by kernel_rfl) (by simp) ?_
                    refine AllReadyH.cons rfl (fun K hK => ?_) AllReadyH.nil
                    go_simp
                    refine hK.out _ _ trivial (fun _ => ?_)
                    clear hK K
                    refine wpAnyH_ready (rs := [7]) (by kernel_rfl) (by simp) ?_
                    refine AllReadyH.cons rfl (fun K hK => ?_) AllReadyH.nil
                    go_simp
                    refine hK.out _ _ trivial (fun _ => ?_)
                    clear hK K
                    refine wpAnyH_done (by kernel_rfl) ?_ _
                    go_wp2_with fail
                    go_roundg g'
                    case measure => omega
                    case rel => exact ⟨i + 1, acc ++ [t1.1], t1.2, s', by simp, by omega, HNX.out.1, by rw [List.length_append, List.map_append]; exact HNX.out.2.1, NX.out.1, by rw [List.length_append, NX.out.2]; rfl⟩
                  · go_simp
                    refine hK.out _ _ trivial (fun _ => ?_)
                    clear hK K
                    refine wpAnyH_ready (rs := [1]) (by kernel_rfl) (by simp) ?_
                    refine AllReadyH.cons rfl (fun K hK => ?_) AllReadyH.nil
                    go_simp
                    refine hK.out _ _ trivial (fun _ => ?_)
                    clear hK K
                    refine wpAnyH_ready (rs := [5]) (by kernel_rfl) (by simp) ?_
                    refine AllReadyH.cons rfl (fun K hK => ?_) AllReadyH.nil
                    go_simp
                    refine hK.out _ _ trivial (fun _ => ?_)
                    clear hK K
                    refine wpAnyH_ready (rs := [6]) (by kernel_rfl) (by simp) ?_
                    refine AllReadyH.cons rfl (fun K hK => ?_) AllReadyH.nil
                    go_simp
                    refine hK.out _ _ trivial (fun _ => ?_)
                    clear hK K
                    refine wpAnyH_ready (rs := [7]) (by kernel_rfl) (by simp) ?_
                    refine AllReadyH.cons rfl (fun K hK => ?_) AllReadyH.nil
                    go_simp
                    refine hK.out _ _ trivial (fun _ => ?_)
                    clear hK K
                    refine wpAnyH_done (by kernel_rfl) ?_ _
                    go_wp2_with fail
                    go_roundg g'
                    case measure => omega
                    case rel => exact ⟨i + 1, acc ++ [t1.1], t1.2, s', by simp, by omega, HNX.out.1, by rw [List.length_append, List.map_append]; exact HNX.out.2.1, NX.out.1, by rw [List.length_append, NX.out.2]; rfl⟩
            case rest =>
              obtain ⟨acc8, sl8, H8⟩ := hcut
              have A8 := hid_of H8.out.2
              have S8r := hid_of H8.out.1
              clear H8
              have lo := loadO_run S8r.out.bx
              obtain ⟨Zf, sf1, sf2, sf3⟩ := storeO_run S8r.out.rz ({ Oc.zero with nm := x0.1, key := x1.1, im := sl2, co := sl3, pr := sp4, na := sn4, ex := se4, ini := x5.1, va := sl6, sh := sl7, st := sl8 } : Oc)
              have HO := hid_of sf2
              have HT := hid_of sf3
              have ST : Hid (x8.2.st = false → x7.2.st = false ∧ x6.2.st = false ∧ x4.2.st = false ∧ x3.2.st = false ∧ x2.2.st = false) := hid_of fun e => by
                have s7 : x7.2.st = false := by rw [← E8.out] at e; exact rowS_st e
                have s6 : x6.2.st = false := by have e := s7; rw [← E7.out] at e; exact rowS_st e
                have s5 : x5.2.st = false := by have e := s6; rw [← E6.out] at e; exact rowS_st e
                have s4 : x4.2.st = false := by have e := s5; rw [← E5.out] at e; exact numS_st e
                have s3 : x3.2.st = false := by have e := s4; rw [← E4.out] at e; exact rowS_st e
                have s2 : x2.2.st = false := by have e := s3; rw [← E3.out] at e; exact rowS_st e
                exact ⟨s7, s6, s4, s3, s2⟩
              clear sf2 sf3
              go_wp2
              refine ret_cell1 (p := 2) rfl rfl (loadO_run HO.out) rfl ?_
              have o1 := S8r.out.oo.tq HT.out (fun k hk => by omega)
              have o2 := HT.out.drd S8r.out.rd (by omega) (fun ad he => by have := HA.out ad he; omega)
              refine ⟨({ Oc.zero with nm := x0.1, key := x1.1, im := sl2, co := sl3, pr := sp4, na := sn4, ex := se4, ini := x5.1, va := sl6, sh := sl7, st := sl8 } : Oc), rfl, (⟨x0.1, x1.1, acc2, acc3, acc4.map (·.1), acc4.map (·.2.1), acc4.map (·.2.2), x5.1, acc6, acc7, acc8, [], []⟩ : Ob), o1, fun e => ?_, o2, ?_, rfl, rfl, rfl, rfl⟩
              · obtain ⟨s7, s6, s4, s3, s2⟩ := ST.out e
                rw [A8.out e, A7.out s7, A6.out s6, A4.out s4, A3.out s3, A2.out s2]
              · have t := (S8r.out.tq.mono (Q := fun k => k = b ∨ k = w.heap.size) fun k _ e => .inl e).trans (HT.out.mono fun k _ e => .inr e)
                exact ⟨t.os, t.tape, t.output, t.size, fun k hk hne => t.blk k hk (fun e => by rcases e with e | e; exact hne (by rw [e]); omega)⟩
end Go.Proofs.Ytepgifapepaheaa
