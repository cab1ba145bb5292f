/-
  Layer 11: the law's walk: how a record that was added is laid.
-/
import Derived.Test.YtgkfnfilomjphaaDoorVpl
import Derived.Test.YtgkfnfilomjphaaDoorVsh
namespace Go.Proofs.YtgkfnfilomjphaaDoor
set_option linter.unusedVariables false
set_option linter.unusedSimpArgs false
open Go.ChangeShapes Go.WideShapes Go.ChangeAt Go.RowKit
attribute [local go_sem ↓] ldY_seal stY_seal ldF_seal stF_seal neF_seal

/-- One field more. -/
structure StF (L T : List Tt) (base : Int) (N : List ByteArray) (O : List Int) (m : Tt) (i : Nat) (nm : ByteArray) (oi : Nat) (a off e z : Int) : Prop where
  fd : fldP (T ++ [m]) (L.length : Int) nm = some ⟨nm, (oi : Int), off⟩
  lt : oi < T.length
  hs : hasB (T ++ [m]) (oi : Int) = true
  al : alD (alL (T ++ [m])) (oi : Int) = a
  a14 : a = 1 ∨ a = 4
  e0 : e ≤ off
  e3 : off - e ≤ 3
  o0 : 0 ≤ off
  ob : off ≤ 4000000
  tm : off.tmod a = 0
  zz : (tyD T (oi : Int)).sz = z
  z0 : 0 ≤ z
  z1 : z ≤ 16384
  nx : layS T (alL T) (begS T base) ((zipF N O).take (i + 1)) = off + z
theorem step_lf {L T : List Tt} {base : Int} {N : List ByteArray} {O : List Int} {m : Tt} (h : LF L T base N O m) (i : Nat) (h1 : i < N.length) (h2 : i < O.length) : ∃ (oi : Nat) (a off z : Int), O[i] = (oi : Int) ∧ StF L T base N O m i N[i] oi a off (layS T (alL T) (begS T base) ((zipF N O).take i)) z := by
  have hz : i < (zipF N O).length := by rw [zipF_len h.no]; exact h1
  have hat := zipF_at i h1 h2 hz
  have hth := (recOk_parts h.ha.ok).2.2.2.2 _ (List.getElem_mem hz)
  rw [hat] at hth
  dsimp only at hth
  have hth2 := hth
  unfold thB hasB at hth2
  simp only [Bool.and_eq_true, decide_eq_true_eq] at hth2
  obtain ⟨⟨x0, x1⟩, hne⟩ := hth2
  obtain ⟨oi, ho⟩ : ∃ oi : Nat, O[i] = (oi : Int) := ⟨O[i].toNat, by omega⟩
  have hlt : oi < T.length := by omega
  have hown := own_found h.inv2.gd (by have := h.tl; have := h.h8; omega) h.ha i hz
  rw [hat, ho, h.tl] at hown
  dsimp only at hown
  have hal := (alD_in h.inv.al (oi : Int)).resolve_left (by rw [← ho]; exact hne)
  have hhT : hasB T (oi : Int) = true := by unfold hasB; simp; omega
  have hh2 : hasB (T ++ [m]) (oi : Int) = true := by unfold hasB; simp; omega
  have hL := layS_le h.inv ((zipF N O).take i) (begS T base) (begS_le h.inv base).1
  have hL2 := (begS_le h.inv base).2
  have htl : ((zipF N O).take i).length ≤ 200 := by rw [List.length_take, zipF_len h.no, h.no]; have := h.n2; omega
  have hsz := h.inv.szD (oi : Int)
  have hnx := layS_snoc T (alL T) ((zipF N O).take i) (begS T base) (zipF N O)[i]
  rw [← fs_take hz, hat, ho] at hnx
  dsimp only at hnx
  generalize layS T (alL T) (begS T base) ((zipF N O).take i) = e at *
  have hE : 0 ≤ e ∧ e ≤ 3900000 := by omega
  have hr : e ≤ ruI e (alD (alL T) (oi : Int)) ∧ ruI e (alD (alL T) (oi : Int)) - e ≤ 3 ∧ (ruI e (alD (alL T) (oi : Int))).tmod (alD (alL T) (oi : Int)) = 0 := by
    rcases hal with ha | ha
    · rw [ha, ruI_one, Int.tmod_one]; omega
    · rw [ha]
      have := ru4 hE.1
      omega
  exact ⟨oi, _, _, _, ho, hown, hlt, hh2, alD_more hhT, hal, hr.1, hr.2.1, by omega, by omega, hr.2.2, rfl, hsz.1, hsz.2, hnx⟩
theorem step_num {a off e z : Int} {oi n : Nat} (h14 : a = 1 ∨ a = 4) (e0 : e ≤ off) (e3 : off - e ≤ 3) (o0 : 0 ≤ off) (ob : off ≤ 4000000) (tm : off.tmod a = 0) (z0 : 0 ≤ z) (z1 : z ≤ 16384) (hlt : oi < n) :
    decide ((oi : Int) < 0) = false ∧ decide ((n : Int) ≤ (oi : Int)) = false ∧ decide (n ≤ oi) = false ∧ decide (off < e) = false ∧ wrap64 (off - e) = off - e ∧ IntKind.i64.wrap (off - e) = off - e ∧ decide (3 < off - e) = false ∧ decide (a < 1) = false ∧ (a == 0) = false ∧ IntKind.i64.wrap (off.tmod a) = 0 ∧ wrap64 (off + z) = off + z ∧ IntKind.i64.wrap (off + z) = off + z := by
  refine ⟨decide_eq_false (by omega), decide_eq_false (by omega), decide_eq_false (by omega), decide_eq_false (by omega), ?_, ?_, decide_eq_false (by omega), ?_, ?_, by rw [tm]; rfl, ?_, ?_⟩
  · rw [IntWalk.wrap64_in] <;> omega
  · rw [IntWalk.i64_left, IntWalk.wrap64_in] <;> omega
  · rcases h14 with rfl | rfl <;> rfl
  · rcases h14 with rfl | rfl <;> rfl
  · rw [IntWalk.wrap64_in] <;> omega
  · rw [IntWalk.i64_left, IntWalk.wrap64_in] <;> omega
theorem fin_num {en S : Int} (h0 : en ≤ S) (h1 : S - en < 4) (h2 : 0 ≤ S) (h3 : S ≤ 16384) : decide (en ≤ S) = true ∧ wrap64 (S - en) = S - en ∧ IntKind.i64.wrap (S - en) = S - en ∧ decide (S - en < 4) = true ∧ decide (S ≤ 16384) = true := by
  refine ⟨decide_eq_true h0, ?_, ?_, decide_eq_true h1, decide_eq_true h3⟩
  · rw [IntWalk.wrap64_in] <;> omega
  · rw [IntWalk.i64_left, IntWalk.wrap64_in] <;> omega
theorem wsmall {i n : Nat} (h : i < n) (hn : n ≤ 140737488355328) : wrap64 ((i : Int) + 1) = (i : Int) + 1 := by rw [IntWalk.wrap64_in] <;> omega
/-- A field's answer put into a box. -/
theorem box_ans (X : World) (f : Fd) : ∃ Z, (stT 33 ⟨X.heap.size, 0, none⟩ (.agg (fdE f))).run Tryd.prog (X.alloc (.cells ZF 33)) = .ok () Z ∧ Hid (BA Z X.heap.size 33 (fdE f) ∧ Below X.heap.size X Z) := by
  obtain ⟨Z, z1, z2, z3⟩ := stT_run (w := X.alloc (.cells ZF 33)) (fdE f) (BA.new X _ ZF) rfl (by kernel_rfl) (fd_one _)
  have hg := gb_put z3
  exact ⟨Z, z1, z2, ⟨hg.os, hg.tape, hg.output, hg.size, fun k hk => hg.block k hk (by simp)⟩⟩
set_option maxRecDepth 20000 in
set_option maxHeartbeats 32000000 in
theorem laid_any (w : World) (hv : Vs w) (s : Sl) (L : List Tt) (h : LsR w s L) (base : Int) (sn so : Sl) (N : List ByteArray) (O : List Int) (hN : RdV w 1 sn N.length (flat stE N)) (hn : ∀ n ∈ N, n.size ≤ maxLen) (hO : RdV w 1 so O.length (flat iE O)) : Calls Tryd.prog 3 #[.slice s.a s.n s.c, .int .i64 base, .slice sn.a sn.n sn.c, .slice so.a so.n so.c] w fun e w' => e = .returned (.bool true) ∧ Below w.heap.size w w' := by
  have SH := hid_of (shown_any w hv)
  have AR : Hid (∀ X, Below w.heap.size w X → Calls Tryd.prog 6 #[.slice s.a s.n s.c, .int .i64 base, .slice sn.a sn.n sn.c, .slice so.a so.n so.c] X fun e w' => Below X.heap.size X w' ∧ ((∃ er : Int, er ≠ 0 ∧ e = .returned (.tuple #[.slice none 0 0, .int .i64 0, .int .i64 er])) ∨ (N.length = O.length ∧ N.length ≤ 200 ∧ PostAr X L base (zipF N O) e w'))) := hid_of fun X hX => addRecord_any X (hv.call hX) s L (h.call hX) base sn so N O (hN.below hX) hn (hO.below hX)
  have hsl := h.li.len
  have hnl := hN.len
  have hol := hO.len
  have HN := hid_of hN
  have HO := hid_of hO
  have HH := hid_of h
  have HV := hid_of hv
  obtain ⟨q1, q2, q3⟩ := s
  obtain ⟨na, nn, nc⟩ := sn
  obtain ⟨oa, on, oc⟩ := so
  dsimp only at hsl hnl hol AR
  subst hsl hnl hol
  clear h hN hO hn hv
  go_enter Tryd.func3, Tryd.ntmps3
  go_upto_if 34 with (first
    | (have hx := B1; clear hx; go_at_call 6; refine (AR.out _ B1.out).mono ?_; rintro e w2 ⟨hB2, hP⟩; have B2 := hid_of (B1.out.trans (hB2.mono B1.out.size)); clear hB2; rcases hP with ⟨er, her, rfl⟩ | ⟨hNO, hN2, hbe, ⟨er, her, rfl⟩ | ⟨p1, p2, s2, T, sl, m, p3, p4, rfl, p5⟩⟩)
    | (go_at_call 5; refine SH.out.mono ?_; rintro e w1 ⟨rfl, hB⟩; have B1 := hid_of hB; clear hB))
  · have e1 : (er != 0) = true := by simpa using her
    clear her
    go_wp2
    go_ret
    exact ⟨rfl, B2.out⟩
  · have e1 : (er != 0) = true := by simpa using her
    clear her
    go_wp2
    go_ret
    exact ⟨rfl, B2.out⟩
  have LFF := hid_of (lf_of p2 p4 p1 p3 hNO hN2)
  have P5 := hid_of p5
  obtain ⟨sa2, sn2, sc2⟩ := s2
  have hsl2 := p5.li.len
  dsimp only at hsl2
  have hl2 : (T ++ [m]).length = L.length + 1 := by rw [List.length_append, LFF.out.tl]; rfl
  have hnT : L.length < (T ++ [m]).length := by rw [hl2]; exact Nat.lt_succ_self _
  obtain ⟨gr, or_, hgr, hgrl, hcm⟩ := p5.li.elem (fun _ => rfl) L.length hnT
  dsimp only at hgr
  subst hgr
  have em : (T ++ [m])[L.length]'hnT = m := by simp [← LFF.out.tl]
  rw [em] at hcm
  have ROW : Hid (∀ X, Below w2.heap.size w2 X → X.cell? ⟨gr, or_ + L.length * 7, none⟩ = some (.int .i64 10) ∧ X.cell? ⟨gr, or_ + L.length * 7 + 4, none⟩ = some (.slice m.sl.a O.length m.sl.c) ∧ X.cell? ⟨gr, or_ + L.length * 7 + 5, none⟩ = some (.int .i64 m.sz)) := hid_of (by
    intro X hX
    have a0 : w2.cell? ⟨gr, or_ + L.length * 7 + 0, none⟩ = some (.int .i64 m.fm) := hcm 0 _ rfl
    have a4 : w2.cell? ⟨gr, or_ + L.length * 7 + 4, none⟩ = some (.slice m.sl.a m.sl.n m.sl.c) := hcm 4 _ rfl
    have a5 : w2.cell? ⟨gr, or_ + L.length * 7 + 5, none⟩ = some (.int .i64 m.sz) := hcm 5 _ rfl
    have hml := (p5.lf m (by simp)).len
    rw [LFF.out.fl] at hml
    rw [hml] at a4
    rw [LFF.out.fm] at a0
    exact ⟨(hX.cell (p := ⟨gr, or_ + L.length * 7, none⟩) hgrl).trans a0, (hX.cell (p := ⟨gr, or_ + L.length * 7 + 4, none⟩) hgrl).trans a4, (hX.cell (p := ⟨gr, or_ + L.length * 7 + 5, none⟩) hgrl).trans a5⟩)
  -- what was read of any type of the row
  have ELM : Hid (∀ (i : Nat), i < T.length → ∀ X, Below w2.heap.size w2 X → X.cell? ⟨gr, or_ + i * 7 + 5, none⟩ = some (.int .i64 (tyD T (i : Int)).sz) ∧ ∃ s1 : Sl, s1.n = (tyD T (i : Int)).fs.length ∧ X.cell? ⟨gr, or_ + i * 7 + 4, none⟩ = some (.slice s1.a s1.n s1.c) ∧ RdV X 3 s1 (tyD T (i : Int)).fs.length (flat fdE (tyD T (i : Int)).fs)) := hid_of (by
    intro i hi X hX
    have hi2 : i < (T ++ [m]).length := by rw [List.length_append]; omega
    obtain ⟨g9, o9, h9, l9, c9⟩ := p5.li.elem (fun _ => rfl) i hi2
    dsimp only at h9
    injection h9 with h9
    injection h9 with h9 h10
    subst h9 h10
    have e9 : (T ++ [m])[i]'hi2 = T[i] := List.getElem_append_left hi
    rw [e9] at c9
    rw [tyD_at hi]
    have a4 : w2.cell? ⟨gr, or_ + i * 7 + 4, none⟩ = some (.slice T[i].sl.a T[i].sl.n T[i].sl.c) := c9 4 _ rfl
    have a5 : w2.cell? ⟨gr, or_ + i * 7 + 5, none⟩ = some (.int .i64 T[i].sz) := c9 5 _ rfl
    have hlf := p5.lf T[i] (List.mem_append_left _ (List.getElem_mem hi))
    exact ⟨(hX.cell (p := ⟨gr, or_ + i * 7 + 5, none⟩) hgrl).trans a5, T[i].sl, hlf.len, (hX.cell (p := ⟨gr, or_ + i * 7 + 4, none⟩) hgrl).trans a4, hlf.below hX⟩)
  have FLD : Hid (∀ X, Below w2.heap.size w2 X → ∀ (t : Int) (nm : ByteArray) (f : Fd), isB (T ++ [m]) t 10 = true → fldP (T ++ [m]) t nm = some f → Calls Tryd.prog 7 #[.slice (some ⟨gr, or_, none⟩) (L.length + 1) sc2, .int .i64 t, .string nm] X fun e w' => e = .returned (.tuple #[.agg (fdE f), .bool true]) ∧ Below X.heap.size X w') := hid_of (by
    intro X hX t nm f ht hf
    have := field_any X (HV.out.call (B2.out.trans (hX.mono B2.out.size))) _ _ (p5.call hX) LFF.out.rd t ht nm f hf
    rwa [hsl2, hl2] at this)
  have ALG : Hid (∀ X, Below w2.heap.size w2 X → ∀ t, hasB (T ++ [m]) t = true → Calls Tryd.prog 8 #[.slice (some ⟨gr, or_, none⟩) (L.length + 1) sc2, .int .i64 t] X fun e w' => e = .returned (.int .i64 (alD (alL (T ++ [m])) t)) ∧ Below X.heap.size X w') := hid_of (by
    intro X hX t ht
    have := align_any X (HV.out.call (B2.out.trans (hX.mono B2.out.size))) _ _ (p5.call hX) LFF.out.rd t ht
    rwa [hsl2, hl2] at this)
  rw [hsl2, hl2]
  obtain ⟨msl, hmsl⟩ : ∃ q, q = m.sl := ⟨_, rfl⟩
  rw [← hmsl] at ROW
  obtain ⟨S, hSz⟩ : ∃ q, q = m.sz := ⟨_, rfl⟩
  rw [← hSz] at ROW
  have HSZ := hid_of hSz
  have hm4 : S.tmod 4 = 0 := by rw [hSz]; exact LFF.out.tm
  have d1 : decide (base < 0) = false := decide_eq_false (Int.not_lt.2 LFF.out.b0)
  have d2 : decide (base ≥ (L.length : Int)) = false := decide_eq_false (Int.not_le.2 LFF.out.b1)
  have d3 : decide ((L.length : Int) ≤ base) = false := decide_eq_false (Int.not_le.2 LFF.out.b1)
  have w1' := (w200 LFF.out.ls).1
  have w2' := (w200 LFF.out.ls).2
  have w3' : IntKind.i64.wrap (S.tmod 4) = 0 := by rw [hm4]; rfl
  have j0 : (0 : Int) ≤ (L.length : Int) := Int.natCast_nonneg _
  have j1 : (L.length : Int) < (L.length : Int) + 1 := Int.lt_succ _
  have j2 : (L.length : Int) < ((L.length + 1 : Nat) : Int) := by push_cast; exact Int.lt_succ _
  obtain ⟨c0, c4, c5⟩ := ROW.out w2 (Below.refl _ _)
  clear hsl2 hl2 hnT hgrl hcm em p1 p2 p3 p4 hbe hmsl hSz hN2 hNO p5
  go_upto_if 103 with fail
  clear c0 c4 c5 d1 d2 d3 w1' w2' w3' hm4 SH AR HH HV
  go_cut [13] (fun s13 X => s13 = .int .i64 (begS T base) ∧ Hid (Below w2.heap.size w2 X))
  case first =>
    by_cases hb0 : base = 0
    · have e2 : decide (0 < base) = false := decide_eq_false (by omega)
      rw [e2]
      have HBS : Hid (begS T base = 0) := hid_of (by unfold begS; rw [if_pos hb0])
      have hrefl : Hid (Below w2.heap.size w2 w2) := hid_of (Below.refl _ _)
      clear hb0
      go_wp2
      go_meet
      case rel => exact ⟨by rw [HBS.out], hrefl⟩
    · have hbT : isB T base 10 = true := (recOk_parts LFF.out.ha.ok).1.resolve_left hb0
      have hbh := isB_has hbT
      have hpos : 0 < base := by have := LFF.out.b0; omega
      have e2 : decide (0 < base) = true := decide_eq_true hpos
      rw [e2]
      clear e2
      obtain ⟨bn, rfl⟩ : ∃ bn : Nat, base = (bn : Int) := ⟨base.toNat, by omega⟩
      have hbn : bn < T.length := by omega
      have HBS : Hid (begS T (bn : Int) = (tyD T (bn : Int)).sz) := hid_of (by unfold begS; rw [if_neg hb0])
      have EB : Hid (∀ X, Below w2.heap.size w2 X → X.cell? ⟨gr, or_ + bn * 7 + 5, none⟩ = some (.int .i64 (tyD T (bn : Int)).sz) ∧ ∃ s1 : Sl, s1.n = (tyD T (bn : Int)).fs.length ∧ X.cell? ⟨gr, or_ + bn * 7 + 4, none⟩ = some (.slice s1.a s1.n s1.c) ∧ RdV X 3 s1 (tyD T (bn : Int)).fs.length (flat fdE (tyD T (bn : Int)).fs)) := hid_of (ELM.out bn hbn)
      have BFD : Hid (∀ (i : Nat) (hi : i < (tyD T (bn : Int)).fs.length), ∃ f, fldP (T ++ [m]) (bn : Int) ((tyD T (bn : Int)).fs[i]).nm = some f ∧ fldP (T ++ [m]) (L.length : Int) ((tyD T (bn : Int)).fs[i]).nm = some f) := hid_of (fun i hi => by
        rw [← LFF.out.tl]
        exact base_found LFF.out.inv.gd LFF.out.inv2.gd (by have := LFF.out.tl; have := LFF.out.h8; omega) LFF.out.ha hb0 i hi)
      have IB : Hid (isB (T ++ [m]) (bn : Int) 10 = true ∧ isB (T ++ [m]) (L.length : Int) 10 = true) := hid_of ⟨isB_snoc hbT, by rw [← LFF.out.tl]; exact isB_end LFF.out.fm⟩
      have i0 : (0 : Int) ≤ (bn : Int) := Int.natCast_nonneg _
      have i1 : (bn : Int) < (L.length : Int) + 1 := by have := LFF.out.tl; omega
      have i2 : (bn : Int) < ((L.length + 1 : Nat) : Int) := by push_cast; exact i1
      generalize (tyD T (bn : Int)).sz = bz at *
      generalize (tyD T (bn : Int)).fs = bf at *
      obtain ⟨c5, s1, hs1, c4, rv⟩ := EB.out w2 (Below.refl _ _)
      clear hb0 hbT hbh hbn rv hs1 c4
      go_wp2_with fail
      go_loopw [14] (fun p wr => ∃ i : Nat, p = .int .i64 (i : Int) ∧ i ≤ bf.length ∧ Hid (Below w2.heap.size w2 wr)) (fun p wr => bf.length - (ivOf p).toNat)
      case atStart => exact ⟨0, rfl, Nat.zero_le _, Below.refl _ _⟩
      case round =>
        clear c5
        obtain ⟨i, rfl, hle, HR⟩ := hrel
        obtain ⟨_, s1, hs1, c4, rv⟩ := EB.out wr HR.out
        rw [hs1] at c4
        by_cases hlt : i < bf.length
        · have d1 : decide ((i : Int) < (bf.length : Int)) = true := decide_eq_true (by omega)
          have d2 : decide (i < bf.length) = true := decide_eq_true hlt
          have j0 : (0 : Int) ≤ (i : Int) := Int.natCast_nonneg _
          have j1 : (i : Int) < (bf.length : Int) := by omega
          obtain ⟨f, hf1, hf2⟩ := BFD.out i hlt
          obtain ⟨g1, o1, hga, hgl, hcm⟩ := rv.elem (fun _ => rfl) i hlt
          have cn0 : wr.cell? ⟨g1, o1 + i * 3 + 0, none⟩ = some (.string bf[i].nm) := hcm 0 _ rfl
          rw [Nat.add_zero] at cn0
          rw [hga] at c4
          obtain ⟨nm, hnm⟩ : ∃ q, q = bf[i].nm := ⟨_, rfl⟩
          rw [← hnm] at cn0 hf1 hf2
          have hg4 := World.block_lt_of_cell? wr _ c4
          have CC : Hid (∀ X, Below wr.heap.size wr X → X.cell? ⟨gr, or_ + bn * 7 + 4, none⟩ = some (.slice (some ⟨g1, o1, none⟩) bf.length s1.c) ∧ X.cell? ⟨g1, o1 + i * 3, none⟩ = some (.string nm)) := hid_of fun X hX => ⟨(hX.cell (p := ⟨gr, or_ + bn * 7 + 4, none⟩) hg4).trans c4, (hX.cell (p := ⟨g1, o1 + i * 3, none⟩) hgl).trans cn0⟩
          have F1 := hid_of (FLD.out wr HR.out (bn : Int) nm f IB.out.1 hf1)
          have F2 : Hid (∀ X, Below wr.heap.size wr X → Calls Tryd.prog 7 #[.slice (some ⟨gr, or_, none⟩) (L.length + 1) sc2, .int .i64 (L.length : Int), .string nm] X fun e w' => e = .returned (.tuple #[.agg (fdE f), .bool true]) ∧ Below X.heap.size X w') := hid_of fun X hX => FLD.out X (HR.out.trans (hX.mono HR.out.size)) (L.length : Int) nm f IB.out.2 hf2
          have hwi : wrap64 ((i : Int) + 1) = (i : Int) + 1 := wsmall hlt rv.most
          have HLT := hid_of hlt
          have HME : Hid (bf.length - ((i : Int) + 1).toNat < bf.length - ((i : Int)).toNat) := hid_of (by clear hwi; omega)
          have NE : Hid (∀ X, (neF (.agg (fdE f)) (.agg (fdE f))).run Tryd.prog X = .ok (.bool false) X) := hid_of fun X => by have := neF_run f f X; rw [fdB_refl] at this; exact this
          clear rv hcm hgl hga hf1 hf2 hnm hg4 hs1
          go_wp2_with (first
            | (have hx := B5; clear hx; go_at_call 7; refine (F2.out _ B5.out).mono ?_; rintro e w6 ⟨rfl, hB6⟩; have B6 := hid_of (B5.out.trans (hB6.mono B5.out.size)); obtain ⟨Z6, zr6, HZ6⟩ := box_ans w6 f; unfold ZF at zr6; have lx := ldT_run ((BX5.out.below hB6).below HZ6.out.2) Tryd.underlying33 rfl (by kernel_rfl); have ly := ldT_run HZ6.out.1 Tryd.underlying33 rfl (by kernel_rfl); have ne6 := NE.out Z6; have lt5 := ((BX5.out.below hB6).below HZ6.out.2).lt; have lt6 := HZ6.out.1.lt; have B7 := hid_of (B6.out.trans (HZ6.out.2.mono B6.out.size)); clear hB6)
            | (go_at_call 7; refine F1.out.mono ?_; rintro e w5 ⟨rfl, hB5⟩; obtain ⟨Z5, zr5, HZ5⟩ := box_ans w5 f; unfold ZF at zr5; have B5 := hid_of (hB5.trans (HZ5.out.2.mono hB5.size)); have BX5 := hid_of HZ5.out.1; obtain ⟨c4z, cnz⟩ := CC.out _ B5.out; clear hB5))
          go_roundw
          case rel => exact ⟨i + 1, by simp [hwi], Nat.succ_le_of_lt HLT.out, HR.out.trans (B7.out.mono HR.out.size)⟩
          case measure => exact vmeas HME.out hwi
        · have d1 : decide ((i : Int) < (bf.length : Int)) = false := decide_eq_false (by omega)
          have d2 : decide (i < bf.length) = false := decide_eq_false hlt
          clear rv hs1 hle hlt
          go_wp2_with fail
          go_meet
          case rel => exact ⟨by rw [HBS.out], HR⟩
  case rest =>
    obtain ⟨rfl, HB⟩ := hcut
    obtain ⟨wa, rfl⟩ : ∃ x, x = wc := ⟨_, rfl⟩
    go_wp2_with fail
    go_loopw [13, 19] (fun p q wr => ∃ i : Nat, q = .int .i64 (i : Int) ∧ p = .int .i64 (layS T (alL T) (begS T base) ((zipF N O).take i)) ∧ i ≤ O.length ∧ Hid (Below w2.heap.size w2 wr)) (fun p q wr => O.length - (ivOf q).toNat)
    case atStart => exact ⟨0, rfl, rfl, Nat.zero_le _, HB⟩
    case round =>
      obtain ⟨i, rfl, rfl, hle, HR⟩ := hrel
      by_cases hlt : i < O.length
      · have d1 : decide ((i : Int) < (O.length : Int)) = true := decide_eq_true (by omega)
        have d2 : decide (i < O.length) = true := decide_eq_true hlt
        have j0 : (0 : Int) ≤ (i : Int) := Int.natCast_nonneg _
        have j1 : (i : Int) < (O.length : Int) := by omega
        have hltN : i < N.length := by rw [LFF.out.no]; exact hlt
        obtain ⟨oi, a, off, z, ho, SF⟩ := step_lf LFF.out i hltN hlt
        have hbw := B2.out.trans (HR.out.mono B2.out.size)
        obtain ⟨gn, on, hga, hgl, hcm⟩ := (HN.out.below hbw).elem (fun _ => rfl) i hltN
        obtain ⟨go_, oo, hgb, hgl2, hcm2⟩ := (HO.out.below hbw).elem (fun _ => rfl) i hlt
        dsimp only at hga hgb
        subst hga hgb
        have cn : wr.cell? ⟨gn, on + i * 1 + 0, none⟩ = some (.string N[i]) := hcm 0 _ rfl
        have co : wr.cell? ⟨go_, oo + i * 1 + 0, none⟩ = some (.int .i64 O[i]) := hcm2 0 _ rfl
        rw [Nat.add_zero, Nat.mul_one] at cn co
        rw [ho] at co
        obtain ⟨nm, hnm⟩ : ∃ q, q = N[i] := ⟨_, rfl⟩
        rw [← hnm] at cn SF
        obtain ⟨e, he⟩ : ∃ q, q = layS T (alL T) (begS T base) ((zipF N O).take i) := ⟨_, rfl⟩
        rw [← he] at SF ⊢
        have hwi : wrap64 ((i : Int) + 1) = (i : Int) + 1 := wsmall hlt (by have := LFF.out.n2; omega)
        have HSF := hid_of SF
        have HLT := hid_of hlt
        have HME : Hid (O.length - ((i : Int) + 1).toNat < O.length - ((i : Int)).toNat) := hid_of (by clear hwi; omega)
        have F1 := hid_of (FLD.out wr HR.out (L.length : Int) nm ⟨nm, (oi : Int), off⟩ (by rw [← LFF.out.tl]; exact isB_end LFF.out.fm) SF.fd)
        have A1 : Hid (∀ X, Below wr.heap.size wr X → Calls Tryd.prog 8 #[.slice (some ⟨gr, or_, none⟩) (L.length + 1) sc2, .int .i64 (oi : Int)] X fun e w' => e = .returned (.int .i64 a) ∧ Below X.heap.size X w') := hid_of fun X hX => by have := ALG.out X (HR.out.trans (hX.mono HR.out.size)) (oi : Int) SF.hs; rwa [SF.al] at this
        have CO : Hid (∀ X, Below wr.heap.size wr X → X.cell? ⟨go_, oo + i, none⟩ = some (.int .i64 (oi : Int)) ∧ X.cell? ⟨gr, or_ + oi * 7 + 5, none⟩ = some (.int .i64 z)) := hid_of fun X hX => ⟨(hX.cell (p := ⟨go_, oo + i, none⟩) hgl2).trans co, by rw [← SF.zz]; exact (ELM.out oi SF.lt X (HR.out.trans (hX.mono HR.out.size))).1⟩
        have k0 : (0 : Int) ≤ (oi : Int) := Int.natCast_nonneg _
        have k1 : (oi : Int) < (L.length : Int) + 1 := by have := LFF.out.tl; have := SF.lt; omega
        have k2 : (oi : Int) < ((L.length + 1 : Nat) : Int) := by push_cast; exact k1
        obtain ⟨x1, x2, x3, x4, x5, x6, x7, x8, x9, x10, x11, x12⟩ := step_num (n := L.length) SF.a14 SF.e0 SF.e3 SF.o0 SF.ob SF.tm SF.z0 SF.z1 (by rw [← LFF.out.tl]; exact SF.lt)
        have htm := SF.tm
        have hane : ¬ (a = 0) := by rcases SF.a14 with e | e <;> omega
        clear hle hlt hltN SF hbw hcm hcm2 hgl hgl2 ho hnm he co
        go_wp2_with (go_at_call 7; refine F1.out.mono ?_; rintro e5 w5 ⟨rfl, hB5⟩; obtain ⟨Z5, zr5, HZ5⟩ := box_ans w5 ⟨nm, (oi : Int), off⟩; unfold ZF at zr5; have B5 := hid_of (hB5.trans (HZ5.out.2.mono hB5.size)); have g1 : Z5.cell? ⟨w5.heap.size, 1, none⟩ = some (.int .i64 (oi : Int)) := HZ5.out.1.cell 1; have g2 : Z5.cell? ⟨w5.heap.size, 2, none⟩ = some (.int .i64 off) := HZ5.out.1.cell 2; have g3 := HZ5.out.1.lt; obtain ⟨co5, cz5⟩ := CO.out _ B5.out; clear hB5)
        go_quiet (fail)
        generalize hX : Z5.drewN nq = X
        have bX : Below Z5.heap.size Z5 X := by rw [← hX]; exact bdn (Below.refl _ _) _
        have BZX := hid_of (HZ5.out.1.below bX)
        have BX := hid_of (B5.out.trans (bX.mono B5.out.size))
        have gX2 : X.cell? ⟨w5.heap.size, 2, none⟩ = some (.int .i64 off) := BZX.out.cell 2
        have gX3 := BZX.out.lt
        obtain ⟨coX, czX⟩ := CO.out X BX.out
        clear hX bX g1 g2 g3 co5 cz5 zr5
        go_wp2_with (go_at_call 8; refine (A1.out _ BX.out).mono ?_; rintro e6 w6 ⟨rfl, hB6⟩; have B6 := hid_of (BX.out.trans (hB6.mono BX.out.size)); have BZ6 := hid_of (BZX.out.below hB6); have gw2 : w6.cell? ⟨w5.heap.size, 2, none⟩ = some (.int .i64 off) := BZ6.out.cell 2; have gw3 := BZ6.out.lt; obtain ⟨cow, czw⟩ := CO.out w6 B6.out; clear hB6)
        go_quiet (fail)
        generalize hY : w6.drewN nq = Y
        have bY : Hid (Below wr.heap.size wr Y) := by rw [← hY]; exact bdn B6.out _
        clear hY gw2 gw3 cow czw gX2 gX3 coX czX
        go_wp2_with fail
        go_roundw
        case rel => exact ⟨i + 1, by simp [hwi], by rw [HSF.out.nx], Nat.succ_le_of_lt HLT.out, HR.out.trans (bY.out.mono HR.out.size)⟩
        case measure => exact vmeas HME.out hwi
      · have d1 : decide ((i : Int) < (O.length : Int)) = false := decide_eq_false (by omega)
        have d2 : decide (i < O.length) = false := decide_eq_false hlt
        obtain rfl : i = O.length := by omega
        have htk : (zipF N O).take O.length = zipF N O := List.take_of_length_le (by rw [zipF_len LFF.out.no, LFF.out.no]; exact Nat.le_refl _)
        rw [htk]
        obtain ⟨en, hen⟩ : ∃ q, q = layS T (alL T) (begS T base) (zipF N O) := ⟨_, rfl⟩
        rw [← hen]
        obtain ⟨y1, y2, y3, y4, y5⟩ := fin_num (en := en) (S := S) (by rw [hen, HSZ.out]; exact LFF.out.e0) (by rw [hen, HSZ.out]; exact LFF.out.e1) (by rw [HSZ.out]; exact LFF.out.s0) (by rw [HSZ.out]; exact LFF.out.s1)
        obtain ⟨_, _, c5⟩ := ROW.out wr HR.out
        have HBW := hid_of (B2.out.trans (HR.out.mono B2.out.size))
        clear htk hen hle hlt
        go_wp2
        go_ret
        exact ⟨rfl, HBW.out⟩
end Go.Proofs.YtgkfnfilomjphaaDoor
