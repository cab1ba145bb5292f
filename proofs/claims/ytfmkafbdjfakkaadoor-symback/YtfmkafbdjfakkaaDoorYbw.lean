/-
  Layer 13: right symbols are read from their bytes, from none with more behind, from none of their beginnings: the law's walk.
-/
import Derived.Test.YtfmkafbdjfakkaaDoorYbd
namespace Go.Proofs.YtfmkafbdjfakkaaDoor
set_option linter.unusedVariables false
set_option linter.unusedSimpArgs false
open Go.ChangeShapes Go.WideShapes Go.ChangeAt Go.RowKit Go.Shelf
attribute [local go_sem ↓] ldS_seal stS_seal appN_seal mkN_seal

/-- Symbols that were handed in, in a box. -/
structure DB (w X : World) (c : Sc) (o : Sy) (l : List (Pc × Sl)) : Prop where
  bx : BA X w.heap.size 26 c.cells
  rd : SyR X c o l
  be : Below w.heap.size w X
  vs : Vs X
theorem DB.below {w X Y : World} {c : Sc} {o : Sy} {l : List (Pc × Sl)} (h : DB w X c o l) (hb : Below X.heap.size X Y) : DB w Y c o l := ⟨h.bx.below hb, h.rd.below hb, h.be.trans (hb.mono (Nat.le_of_lt h.bx.lt)), h.vs.below hb h.vs.big⟩
theorem DB.start {w : World} {c : Sc} {o : Sy} {l : List (Pc × Sl)} (h : SyR w c o l) (hv : Vs w) : DB w (w.alloc (.cells c.cells 26)) c o l := by
  have hb : Below w.heap.size w (w.alloc (.cells c.cells 26)) := (Below.refl _ _).alloc (Nat.le_refl _) _
  exact ⟨BA.new w _ _, h.below hb, hb, hv.below hb hv.big⟩
theorem DB.ld {w X : World} {c : Sc} {o : Sy} {l : List (Pc × Sl)} (h : DB w X c o l) : (ldT 26 ⟨w.heap.size, 0, none⟩).run Tryd.prog X = .ok (.agg c.cells) X := ldT_run h.bx Tryd.underlying26 rfl (by kernel_rfl)
set_option maxHeartbeats 4000000 in
set_option maxRecDepth 20000 in
theorem back_no (w : World) (hv : Vs w) (c : Sc) (o : Sy) (l : List (Pc × Sl)) (h : SyR w c o l) (hn : rightP o = false) (cut : Int) (ma : Option Addr) (m mc : Nat) : Calls Tryd.prog 6 #[.agg c.cells, .int .i64 cut, .slice ma m mc] w fun e w' => e = .returned (.bool true) ∧ Below w.heap.size w w' := by
  have D0 := hid_of (DB.start h hv)
  have SH : Hid (∀ X, DB w X c o l → Calls Tryd.prog 8 #[] X fun e Y => e = .returned (.bool true) ∧ DB w Y c o l) := hid_of fun X hX => (shown_any X hX.vs).mono fun e Y hh => ⟨hh.1, hX.below hh.2⟩
  have RG : Hid (∀ X, DB w X c o l → Calls Tryd.prog 10 #[.agg c.cells] X fun e Y => e = .returned (.bool false) ∧ DB w Y c o l) := hid_of fun X hX => (right_any X hX.vs c o l hX.rd).mono fun e Y hh => ⟨by rw [hh.1, rightS_P hX.rd.pl, hn], hX.below hh.2⟩
  have EN : Hid (∀ X, DB w X c o l → Calls Tryd.prog 11 #[.agg c.cells] X fun e Y => e = .returned (.tuple #[.slice none 0 0, .int .i64 130]) ∧ DB w Y c o l) := hid_of fun X hX => (encode_no X hX.vs c o l hX.rd hn).mono fun e Y hh => ⟨hh.1, hX.below hh.2⟩
  clear h hn hv
  go_enter Tryd.func6, Tryd.ntmps6
  go_wp2_with (first
    | (go_at_call 8; refine (SH.out _ D0.out).mono ?_; rintro e w1 ⟨rfl, d1⟩; have D1 := hid_of d1; have l1 := d1.ld; clear d1)
    | (go_at_call 10; refine (RG.out _ D1.out).mono ?_; rintro e w2 ⟨rfl, d2⟩; have D2 := hid_of d2; have l2 := d2.ld; clear d2)
    | (go_at_call 11; refine (EN.out _ D2.out).mono ?_; rintro e w3 ⟨rfl, d3⟩))
  go_ret
  exact ⟨rfl, d3.be⟩
/-- Both symbols, and what was written. -/
structure BB (w Z : World) (ga : Nat) (c c2 : Sc) (o : Sy) (l l2 : List (Pc × Sl)) : Prop where
  di : DB w Z c o l
  bp : BA Z ga 26 c2.cells
  rp : SyR Z c2 o l2
theorem BB.below {w Z Y : World} {ga : Nat} {c c2 : Sc} {o : Sy} {l l2 : List (Pc × Sl)} (h : BB w Z ga c c2 o l l2) (hb : Below Z.heap.size Z Y) : BB w Y ga c c2 o l l2 := ⟨h.di.below hb, h.bp.below hb, h.rp.below hb⟩
theorem BB.ld {w X : World} {ga : Nat} {c c2 : Sc} {o : Sy} {l l2 : List (Pc × Sl)} (h : BB w X ga c c2 o l l2) : (ldT 26 ⟨ga, 0, none⟩).run Tryd.prog X = .ok (.agg c2.cells) X := ldT_run h.bp Tryd.underlying26 rfl (by kernel_rfl)
theorem SyAt.rdi {X : World} {B : Nat} {c : Sc} {o : Sy} (h : SyAt X B c o) (hi : In o) : ∃ l, SyR X c o l := by
  obtain ⟨l, h1, h2, h3⟩ := h.ps
  have c4 : l.length = o.ps.length := by rw [← h1, List.length_map]
  have hp : ∀ x ∈ l, x.1 ∈ o.ps := fun x hx => by rw [← h1]; exact List.mem_map.2 ⟨x, hx, rfl⟩
  have k1 := hi.cl
  have k2 := hi.vl
  have k3 := hi.pl
  have k4 := hi.nm
  exact ⟨l, h.nm, own_rdv h.cs (by omega), own_rdv h.vs (by omega), h1, own_rdv h2 (by omega), fun p hq => own_rdv (h3 p hq) (by have := (hi.ps _ (hp p hq)).2.1; omega), by omega, fun x hx => by have := (hi.cs x hx).1; omega, fun x hx => by have := (hi.vs x hx).1; omega, fun x hx => by have := (hi.ps _ (hp x hx)).1; omega⟩
set_option maxHeartbeats 16000000 in
set_option maxRecDepth 20000 in
theorem back_neg (w : World) (hv : Vs w) (c : Sc) (o : Sy) (l : List (Pc × Sl)) (h : SyR w c o l) (hn : rightP o = true) (cut : Int) (ma : Option Addr) (m mc : Nat) (fm : Nat → Int) (hm : Src w ma m mc fm) (hcut : cut < 0) : Calls Tryd.prog 6 #[.agg c.cells, .int .i64 cut, .slice ma m mc] w fun e w' => e = .returned (.bool true) ∧ Below w.heap.size w w' := by
  have hi := in_right hn
  have hbl := symP_le hn
  have hbyt : AllB (markL ++ symP o) := mark_by.app (symP_by hn)
  obtain ⟨L0, hL0⟩ : ∃ L0, L0 = markL ++ symP o := ⟨_, rfl⟩
  obtain ⟨E, hE⟩ : ∃ E, E = 4 + (symP o).length := ⟨_, rfl⟩
  have hEL : L0.length = E := by rw [hL0, List.length_append, show markL.length = 4 from rfl, hE]
  have hE0 : 0 < E := by omega
  have hEm : E ≤ 100004 := by omega
  have hmm : m ≤ 140737488351232 := hm.fit
  have D0 := hid_of (DB.start h hv)
  have SH : Hid (∀ X, DB w X c o l → Calls Tryd.prog 8 #[] X fun e Y => e = .returned (.bool true) ∧ DB w Y c o l) := hid_of fun X hX => (shown_any X hX.vs).mono fun e Y hh => ⟨hh.1, hX.below hh.2⟩
  have RG : Hid (∀ X, DB w X c o l → Calls Tryd.prog 10 #[.agg c.cells] X fun e Y => e = .returned (.bool true) ∧ DB w Y c o l) := hid_of fun X hX => (right_any X hX.vs c o l hX.rd).mono fun e Y hh => ⟨by rw [hh.1, rightS_P hX.rd.pl, hn], hX.below hh.2⟩
  have EN : Hid (∀ X, DB w X c o l → Calls Tryd.prog 11 #[.agg c.cells] X fun e Y => ∃ g k, e = .returned (.tuple #[.slice (some ⟨g, 0, none⟩) E k, .int .i64 0]) ∧ E ≤ k ∧ Hid ((∃ B, Ow Y B (.slice (some ⟨g, 0, none⟩) E k) L0) ∧ DB w Y c o l)) := hid_of fun X hX => (encode_yes X hX.vs c o l hX.rd hn).mono fun e Y hh => by
    obtain ⟨a, n, k, h1, ⟨B, _, h2⟩, h3⟩ := hh
    rw [← hL0] at h2
    obtain ⟨g, k2, hv, _, _⟩ := ow_at h2 (fun e => by rw [e] at hEL; simp at hEL; omega)
    rw [hEL] at hv
    rw [hv] at h1 h2
    injection hv with _ _ hk
    obtain ⟨_, _, h9⟩ := ow_src h2 (by rw [hL0]; exact hbyt) (by omega)
    exact ⟨g, k2, h1, h9, ⟨B, h2⟩, hX.below h3⟩
  have hlies : Lies (fun i => L0.getD i 0) 0 (markL ++ symP o) := by rw [hL0]; exact lies_self _
  have DC : Hid (∀ Y g k, (∃ B, Ow Y B (.slice (some ⟨g, 0, none⟩) E k) L0) ∧ DB w Y c o l → Calls Tryd.prog 17 #[.slice (some ⟨g, 0, none⟩) E k] Y fun e V => ∃ c2 l2 Z, e = .returned (.tuple #[.agg (Sc.cells c2), .int .i64 0, .int .i64 0]) ∧ (stT 26 ⟨V.heap.size, 0, none⟩ (.agg c2.cells)).run Tryd.prog (V.alloc (.cells Sc.zero.cells 26)) = .ok () Z ∧ Hid (BB w Z V.heap.size c c2 o l l2 ∧ Src Z (some ⟨g, 0, none⟩) E k (fun i => L0.getD i 0))) := hid_of fun Y g k hY => by
    obtain ⟨⟨B, ho⟩, hD⟩ := hY
    have hb0 : AllB L0 := by rw [hL0]; exact hbyt
    obtain ⟨s1, s2, s3⟩ := ow_src ho hb0 (by omega)
    refine (decode_own hD.vs ho hb0 (by omega)).mono fun e V hh => ?_
    obtain ⟨p1, p2⟩ := dec_of hn hlies
    rw [← hE, ← hEL] at p1 p2
    obtain ⟨c2, h1, h2, _, h4⟩ := hh
    rw [p1] at h1 h4
    obtain ⟨B2, _, h5⟩ := h4 rfl
    rw [p2] at h5
    obtain ⟨l2, h6⟩ := h5.rdi hi
    obtain ⟨Z, z1, z2, z3⟩ := stT_run c2.cells (BA.new V 26 Sc.zero.cells) rfl (by kernel_rfl) (Sc.one _)
    have bV : Below V.heap.size V Z := ((Below.refl _ _).alloc (Nat.le_refl _) _).trans (z3.bel (by simp) (Nat.le_refl _))
    have bYZ : Below Y.heap.size Y Z := h2.trans (bV.mono h2.size)
    exact ⟨c2, l2, Z, h1, z1, hid_of ⟨⟨hD.below bYZ, z2, h6.below bV⟩, s1.below bYZ⟩⟩
  have hL0b : bl (fun i => L0.getD i 0) E = L0 := by rw [← hEL]; exact bl_lies (lies_self L0)
  obtain ⟨LL, hLL⟩ : ∃ LL, LL = L0 ++ bl fm m := ⟨_, rfl⟩
  have hLe : LL.length = E + m := by rw [hLL, List.length_append, bl_len, hEL]
  have MK : Hid (∀ Z g k ga c2 l2, BB w Z ga c c2 o l l2 ∧ Src Z (some ⟨g, 0, none⟩) E k (fun i => L0.getD i 0) → ∃ Y1 Y2 v2 Y3 g3 k3, (mkN 30 (.int .i64 0) (.int .i64 (E : Int))).run Tryd.prog Z = .ok (.slice (some ⟨Z.heap.size, 0, none⟩) 0 E) Y1 ∧ (appN #[30, 30] 30 #[.slice (some ⟨Z.heap.size, 0, none⟩) 0 E, .slice (some ⟨g, 0, none⟩) E k]).run Tryd.prog Y1 = .ok v2 Y2 ∧ (appN #[30, 30] 30 #[v2, .slice ma m mc]).run Tryd.prog Y2 = .ok (.slice (some ⟨g3, 0, none⟩) ((E + m : Nat)) k3) Y3 ∧ Hid (Below Z.heap.size Z Y3 ∧ Ow Y3 Z.heap.size (.slice (some ⟨g3, 0, none⟩) (E + m) k3) LL)) := hid_of fun Z g k ga c2 l2 hZ => by
    obtain ⟨Y1, r1, o1, g1⟩ := make_row Z Z.heap.size E (Nat.le_refl _) (by omega)
    have b1 : Below Z.heap.size Z Y1 := gb_none g1
    obtain ⟨v2, Y2, r2, o2, g2⟩ := app_bytes (X := Y1) (some ⟨g, 0, none⟩) E k _ o1 (hZ.2.below b1).rd (fun e => by cases e) b1.size (by simp; omega) (.inr (by omega))
    have b2 : Below Z.heap.size Z Y2 := gb_low b1 g2 (fun q e => own_lo o1 q e)
    rw [List.nil_append, hL0b] at o2
    obtain ⟨v3, Y3, r3, o3, g4⟩ := app_bytes (X := Y2) ma m mc fm o2 (hm.below (hZ.1.di.be.trans (b2.mono hZ.1.di.be.size))).rd hm.nil b2.size (by omega) (.inl (by omega))
    have b3 : Below Z.heap.size Z Y3 := gb_low b2 g4 (fun q e => own_lo o2 q e)
    rw [← hLL] at o3
    obtain ⟨g3, k3, hv, _, q2⟩ := ow_at o3 (fun e => by rw [e] at hLe; simp at hLe; omega)
    rw [hLe] at hv
    rw [hv] at r3 o3
    exact ⟨Y1, Y2, v2, Y3, g3, k3, r1, r2, r3, b3, o3⟩
  have hmb : AllB (bl fm m) := fun x hx => by
    obtain ⟨j, hj, rfl⟩ := List.mem_map.1 hx
    exact hm.oct j (List.mem_range.1 hj)
  have hLb : AllB LL := by rw [hLL, hL0]; exact hbyt.app hmb
  obtain ⟨er, her⟩ : ∃ er, (decS (fun i => LL.getD i 0) LL.length).2 = er := ⟨_, rfl⟩
  have hboth : (er == 0) = true ∧ ((m : Int) == 0) = true ∨ (er == 0) = false ∧ ((m : Int) == 0) = false := by
    by_cases hm0 : m = 0
    · left
      refine ⟨?_, by simp [hm0]⟩
      have e1 : LL = L0 := by rw [hLL, hm0]; simp [bl]
      rw [← her, e1, hEL, hE, (dec_of hn hlies).1]
      rfl
    · right
      refine ⟨?_, by simp; omega⟩
      have : er ≠ 0 := by
        rw [← her, hLe]
        refine dec_more hn (f := fun i => LL.getD i 0) ?_ (by omega)
        have h1 := lies_self LL
        rw [hLL, hL0] at h1 ⊢
        exact h1.left
      simpa using this
  have DE : Hid (∀ Z Y3 g3 k3 ga c2 l2, BB w Z ga c c2 o l l2 → Below Z.heap.size Z Y3 ∧ Ow Y3 Z.heap.size (.slice (some ⟨g3, 0, none⟩) (E + m) k3) LL → Calls Tryd.prog 17 #[.slice (some ⟨g3, 0, none⟩) ((E + m : Nat)) k3] Y3 fun e U => ∃ c6 p6 Z6, e = .returned (.tuple #[.agg (Sc.cells c6), .int .i64 p6, .int .i64 er]) ∧ (stT 26 ⟨U.heap.size, 0, none⟩ (.agg c6.cells)).run Tryd.prog (U.alloc (.cells Sc.zero.cells 26)) = .ok () Z6 ∧ Hid (Below Z.heap.size Z Z6)) := hid_of fun Z Y3 g3 k3 ga c2 l2 hB hV => by
    refine (decode_own (hB.di.vs.below hV.1 hB.di.vs.big) hV.2 hLb (by omega)).mono fun e U hh => ?_
    obtain ⟨c6, h1, h2, _, _⟩ := hh
    rw [her] at h1
    obtain ⟨Z6, z1, z2, z3⟩ := stT_run c6.cells (BA.new U 26 Sc.zero.cells) rfl (by kernel_rfl) (Sc.one _)
    have bU : Below U.heap.size U Z6 := ((Below.refl _ _).alloc (Nat.le_refl _) _).trans (z3.bel (by simp) (Nat.le_refl _))
    have b1 : Below Z.heap.size Z U := hV.1.trans (h2.mono hV.1.size)
    exact ⟨c6, _, Z6, h1, z1, b1.trans (bU.mono b1.size)⟩
  have SE : Hid (∀ X ga c2 l2, BB w X ga c c2 o l l2 → Calls Tryd.prog 15 #[.agg c.cells, .agg c2.cells] X fun e Y => e = .returned (.bool true) ∧ Below w.heap.size w Y) := hid_of fun X ga c2 l2 hX => (same_eq X c c2 o l l2 hX.di.rd hX.rp).mono fun e Y hh => ⟨hh.1, hX.di.be.trans (hh.2.mono hX.di.be.size)⟩
  have d1 : decide ((0 : Int) ≤ cut) = false := decide_eq_false (by omega)
  have d2 : ¬ (0 : Int) ≤ cut := by omega
  simp only [show Sc.zero.cells = #[.string ⟨#[]⟩, .slice none 0 0, .slice none 0 0, .slice none 0 0] from rfl] at DC DE
  clear h hv hn hm hi hbl hbyt hL0 hEL hlies hL0b hLL hmb hLb hLe her hE hcut
  rcases hboth with ⟨n1, n2⟩ | ⟨n1, n2⟩
  · go_enter Tryd.func6, Tryd.ntmps6
    go_wp2_with (first
      | (go_at_call 8; refine (SH.out _ D0.out).mono ?_; rintro e w1 ⟨rfl, d1⟩; have D1 := hid_of d1; have l1 := d1.ld; clear d1)
      | (go_at_call 10; refine (RG.out _ D1.out).mono ?_; rintro e w2 ⟨rfl, d2⟩; have D2 := hid_of d2; have l2 := d2.ld; clear d2)
      | (go_at_call 11; refine (EN.out _ D2.out).mono ?_; rintro e w3 ⟨g, k, rfl, hk, H3⟩)
      | (go_at_call 17; have hx := HY; clear hx; refine (DE.out Z Y3 g3 k3 _ c2 l2 HZ.out.1 HY.out).mono ?_; rintro e w6 ⟨c6, p6, Z6, rfl, z6, H6⟩; have B6 := hid_of (And.intro (HZ.out.1.below H6.out) (HZ.out.2.below H6.out)); have lo := B6.out.1.di.ld; have lp := B6.out.1.ld)
      | (go_at_call 17; refine (DC.out _ g k H3.out).mono ?_; rintro e w4 ⟨c2, l2, Z, rfl, z1, HZ⟩; obtain ⟨Y1, Y2, v2, Y3, g3, k3, r1, r2, r3, HY⟩ := MK.out Z g k _ c2 l2 HZ.out)
      | (go_at_call 15; refine (SE.out _ _ c2 l2 B6.out.1).mono ?_; rintro e w7 ⟨rfl, hb7⟩))
    go_ret
    exact ⟨ret_bool (by simp), hb7⟩
  · go_enter Tryd.func6, Tryd.ntmps6
    go_wp2_with (first
      | (go_at_call 8; refine (SH.out _ D0.out).mono ?_; rintro e w1 ⟨rfl, d1⟩; have D1 := hid_of d1; have l1 := d1.ld; clear d1)
      | (go_at_call 10; refine (RG.out _ D1.out).mono ?_; rintro e w2 ⟨rfl, d2⟩; have D2 := hid_of d2; have l2 := d2.ld; clear d2)
      | (go_at_call 11; refine (EN.out _ D2.out).mono ?_; rintro e w3 ⟨g, k, rfl, hk, H3⟩)
      | (go_at_call 17; have hx := HY; clear hx; refine (DE.out Z Y3 g3 k3 _ c2 l2 HZ.out.1 HY.out).mono ?_; rintro e w6 ⟨c6, p6, Z6, rfl, z6, H6⟩; have B6 := hid_of (And.intro (HZ.out.1.below H6.out) (HZ.out.2.below H6.out)); have lo := B6.out.1.di.ld; have lp := B6.out.1.ld)
      | (go_at_call 17; refine (DC.out _ g k H3.out).mono ?_; rintro e w4 ⟨c2, l2, Z, rfl, z1, HZ⟩; obtain ⟨Y1, Y2, v2, Y3, g3, k3, r1, r2, r3, HY⟩ := MK.out Z g k _ c2 l2 HZ.out)
      | (go_at_call 15; refine (SE.out _ _ c2 l2 B6.out.1).mono ?_; rintro e w7 ⟨rfl, hb7⟩))
    go_ret
    exact ⟨ret_bool (by simp), hb7⟩
set_option maxHeartbeats 16000000 in
set_option maxRecDepth 20000 in
theorem back_far (w : World) (hv : Vs w) (c : Sc) (o : Sy) (l : List (Pc × Sl)) (h : SyR w c o l) (hn : rightP o = true) (cut : Int) (ma : Option Addr) (m mc : Nat) (fm : Nat → Int) (hm : Src w ma m mc fm) (h0 : 0 ≤ cut) (hcut : 4 + (symP o).length ≤ cut) : Calls Tryd.prog 6 #[.agg c.cells, .int .i64 cut, .slice ma m mc] w fun e w' => e = .returned (.bool true) ∧ Below w.heap.size w w' := by
  have hi := in_right hn
  have hbl := symP_le hn
  have hbyt : AllB (markL ++ symP o) := mark_by.app (symP_by hn)
  obtain ⟨L0, hL0⟩ : ∃ L0, L0 = markL ++ symP o := ⟨_, rfl⟩
  obtain ⟨E, hE⟩ : ∃ E, E = 4 + (symP o).length := ⟨_, rfl⟩
  have hEL : L0.length = E := by rw [hL0, List.length_append, show markL.length = 4 from rfl, hE]
  have hE0 : 0 < E := by omega
  have hEm : E ≤ 100004 := by omega
  have hmm : m ≤ 140737488351232 := hm.fit
  have D0 := hid_of (DB.start h hv)
  have SH : Hid (∀ X, DB w X c o l → Calls Tryd.prog 8 #[] X fun e Y => e = .returned (.bool true) ∧ DB w Y c o l) := hid_of fun X hX => (shown_any X hX.vs).mono fun e Y hh => ⟨hh.1, hX.below hh.2⟩
  have RG : Hid (∀ X, DB w X c o l → Calls Tryd.prog 10 #[.agg c.cells] X fun e Y => e = .returned (.bool true) ∧ DB w Y c o l) := hid_of fun X hX => (right_any X hX.vs c o l hX.rd).mono fun e Y hh => ⟨by rw [hh.1, rightS_P hX.rd.pl, hn], hX.below hh.2⟩
  have EN : Hid (∀ X, DB w X c o l → Calls Tryd.prog 11 #[.agg c.cells] X fun e Y => ∃ g k, e = .returned (.tuple #[.slice (some ⟨g, 0, none⟩) E k, .int .i64 0]) ∧ E ≤ k ∧ Hid ((∃ B, Ow Y B (.slice (some ⟨g, 0, none⟩) E k) L0) ∧ DB w Y c o l)) := hid_of fun X hX => (encode_yes X hX.vs c o l hX.rd hn).mono fun e Y hh => by
    obtain ⟨a, n, k, h1, ⟨B, _, h2⟩, h3⟩ := hh
    rw [← hL0] at h2
    obtain ⟨g, k2, hv, _, _⟩ := ow_at h2 (fun e => by rw [e] at hEL; simp at hEL; omega)
    rw [hEL] at hv
    rw [hv] at h1 h2
    injection hv with _ _ hk
    obtain ⟨_, _, h9⟩ := ow_src h2 (by rw [hL0]; exact hbyt) (by omega)
    exact ⟨g, k2, h1, h9, ⟨B, h2⟩, hX.below h3⟩
  have hlies : Lies (fun i => L0.getD i 0) 0 (markL ++ symP o) := by rw [hL0]; exact lies_self _
  have DC : Hid (∀ Y g k, (∃ B, Ow Y B (.slice (some ⟨g, 0, none⟩) E k) L0) ∧ DB w Y c o l → Calls Tryd.prog 17 #[.slice (some ⟨g, 0, none⟩) E k] Y fun e V => ∃ c2 l2 Z, e = .returned (.tuple #[.agg (Sc.cells c2), .int .i64 0, .int .i64 0]) ∧ (stT 26 ⟨V.heap.size, 0, none⟩ (.agg c2.cells)).run Tryd.prog (V.alloc (.cells Sc.zero.cells 26)) = .ok () Z ∧ Hid (BB w Z V.heap.size c c2 o l l2 ∧ Src Z (some ⟨g, 0, none⟩) E k (fun i => L0.getD i 0))) := hid_of fun Y g k hY => by
    obtain ⟨⟨B, ho⟩, hD⟩ := hY
    have hb0 : AllB L0 := by rw [hL0]; exact hbyt
    obtain ⟨s1, s2, s3⟩ := ow_src ho hb0 (by omega)
    refine (decode_own hD.vs ho hb0 (by omega)).mono fun e V hh => ?_
    obtain ⟨p1, p2⟩ := dec_of hn hlies
    rw [← hE, ← hEL] at p1 p2
    obtain ⟨c2, h1, h2, _, h4⟩ := hh
    rw [p1] at h1 h4
    obtain ⟨B2, _, h5⟩ := h4 rfl
    rw [p2] at h5
    obtain ⟨l2, h6⟩ := h5.rdi hi
    obtain ⟨Z, z1, z2, z3⟩ := stT_run c2.cells (BA.new V 26 Sc.zero.cells) rfl (by kernel_rfl) (Sc.one _)
    have bV : Below V.heap.size V Z := ((Below.refl _ _).alloc (Nat.le_refl _) _).trans (z3.bel (by simp) (Nat.le_refl _))
    have bYZ : Below Y.heap.size Y Z := h2.trans (bV.mono h2.size)
    exact ⟨c2, l2, Z, h1, z1, hid_of ⟨⟨hD.below bYZ, z2, h6.below bV⟩, s1.below bYZ⟩⟩
  have hL0b : bl (fun i => L0.getD i 0) E = L0 := by rw [← hEL]; exact bl_lies (lies_self L0)
  obtain ⟨LL, hLL⟩ : ∃ LL, LL = L0 ++ bl fm m := ⟨_, rfl⟩
  have hLe : LL.length = E + m := by rw [hLL, List.length_append, bl_len, hEL]
  have MK : Hid (∀ Z g k ga c2 l2, BB w Z ga c c2 o l l2 ∧ Src Z (some ⟨g, 0, none⟩) E k (fun i => L0.getD i 0) → ∃ Y1 Y2 v2 Y3 g3 k3, (mkN 30 (.int .i64 0) (.int .i64 (E : Int))).run Tryd.prog Z = .ok (.slice (some ⟨Z.heap.size, 0, none⟩) 0 E) Y1 ∧ (appN #[30, 30] 30 #[.slice (some ⟨Z.heap.size, 0, none⟩) 0 E, .slice (some ⟨g, 0, none⟩) E k]).run Tryd.prog Y1 = .ok v2 Y2 ∧ (appN #[30, 30] 30 #[v2, .slice ma m mc]).run Tryd.prog Y2 = .ok (.slice (some ⟨g3, 0, none⟩) ((E + m : Nat)) k3) Y3 ∧ Hid (Below Z.heap.size Z Y3 ∧ Ow Y3 Z.heap.size (.slice (some ⟨g3, 0, none⟩) (E + m) k3) LL)) := hid_of fun Z g k ga c2 l2 hZ => by
    obtain ⟨Y1, r1, o1, g1⟩ := make_row Z Z.heap.size E (Nat.le_refl _) (by omega)
    have b1 : Below Z.heap.size Z Y1 := gb_none g1
    obtain ⟨v2, Y2, r2, o2, g2⟩ := app_bytes (X := Y1) (some ⟨g, 0, none⟩) E k _ o1 (hZ.2.below b1).rd (fun e => by cases e) b1.size (by simp; omega) (.inr (by omega))
    have b2 : Below Z.heap.size Z Y2 := gb_low b1 g2 (fun q e => own_lo o1 q e)
    rw [List.nil_append, hL0b] at o2
    obtain ⟨v3, Y3, r3, o3, g4⟩ := app_bytes (X := Y2) ma m mc fm o2 (hm.below (hZ.1.di.be.trans (b2.mono hZ.1.di.be.size))).rd hm.nil b2.size (by omega) (.inl (by omega))
    have b3 : Below Z.heap.size Z Y3 := gb_low b2 g4 (fun q e => own_lo o2 q e)
    rw [← hLL] at o3
    obtain ⟨g3, k3, hv, _, q2⟩ := ow_at o3 (fun e => by rw [e] at hLe; simp at hLe; omega)
    rw [hLe] at hv
    rw [hv] at r3 o3
    exact ⟨Y1, Y2, v2, Y3, g3, k3, r1, r2, r3, b3, o3⟩
  have hmb : AllB (bl fm m) := fun x hx => by
    obtain ⟨j, hj, rfl⟩ := List.mem_map.1 hx
    exact hm.oct j (List.mem_range.1 hj)
  have hLb : AllB LL := by rw [hLL, hL0]; exact hbyt.app hmb
  obtain ⟨er, her⟩ : ∃ er, (decS (fun i => LL.getD i 0) LL.length).2 = er := ⟨_, rfl⟩
  have hboth : (er == 0) = true ∧ ((m : Int) == 0) = true ∨ (er == 0) = false ∧ ((m : Int) == 0) = false := by
    by_cases hm0 : m = 0
    · left
      refine ⟨?_, by simp [hm0]⟩
      have e1 : LL = L0 := by rw [hLL, hm0]; simp [bl]
      rw [← her, e1, hEL, hE, (dec_of hn hlies).1]
      rfl
    · right
      refine ⟨?_, by simp; omega⟩
      have : er ≠ 0 := by
        rw [← her, hLe]
        refine dec_more hn (f := fun i => LL.getD i 0) ?_ (by omega)
        have h1 := lies_self LL
        rw [hLL, hL0] at h1 ⊢
        exact h1.left
      simpa using this
  have DE : Hid (∀ Z Y3 g3 k3 ga c2 l2, BB w Z ga c c2 o l l2 → Below Z.heap.size Z Y3 ∧ Ow Y3 Z.heap.size (.slice (some ⟨g3, 0, none⟩) (E + m) k3) LL → Calls Tryd.prog 17 #[.slice (some ⟨g3, 0, none⟩) ((E + m : Nat)) k3] Y3 fun e U => ∃ c6 p6 Z6, e = .returned (.tuple #[.agg (Sc.cells c6), .int .i64 p6, .int .i64 er]) ∧ (stT 26 ⟨U.heap.size, 0, none⟩ (.agg c6.cells)).run Tryd.prog (U.alloc (.cells Sc.zero.cells 26)) = .ok () Z6 ∧ Hid (Below Z.heap.size Z Z6)) := hid_of fun Z Y3 g3 k3 ga c2 l2 hB hV => by
    refine (decode_own (hB.di.vs.below hV.1 hB.di.vs.big) hV.2 hLb (by omega)).mono fun e U hh => ?_
    obtain ⟨c6, h1, h2, _, _⟩ := hh
    rw [her] at h1
    obtain ⟨Z6, z1, z2, z3⟩ := stT_run c6.cells (BA.new U 26 Sc.zero.cells) rfl (by kernel_rfl) (Sc.one _)
    have bU : Below U.heap.size U Z6 := ((Below.refl _ _).alloc (Nat.le_refl _) _).trans (z3.bel (by simp) (Nat.le_refl _))
    have b1 : Below Z.heap.size Z U := hV.1.trans (h2.mono hV.1.size)
    exact ⟨c6, _, Z6, h1, z1, b1.trans (bU.mono b1.size)⟩
  have SE : Hid (∀ X ga c2 l2, BB w X ga c c2 o l l2 → Calls Tryd.prog 15 #[.agg c.cells, .agg c2.cells] X fun e Y => e = .returned (.bool true) ∧ Below w.heap.size w Y) := hid_of fun X ga c2 l2 hX => (same_eq X c c2 o l l2 hX.di.rd hX.rp).mono fun e Y hh => ⟨hh.1, hX.di.be.trans (hh.2.mono hX.di.be.size)⟩
  have d1 : decide ((0 : Int) ≤ cut) = true := decide_eq_true (by omega)
  have d3 : decide (cut < (E : Int)) = false := decide_eq_false (by omega)
  have d4 : ¬ cut < (E : Int) := by omega
  simp only [show Sc.zero.cells = #[.string ⟨#[]⟩, .slice none 0 0, .slice none 0 0, .slice none 0 0] from rfl] at DC DE
  clear h hv hn hm hi hbl hbyt hL0 hEL hlies hL0b hLL hmb hLb hLe her hE hcut
  rcases hboth with ⟨n1, n2⟩ | ⟨n1, n2⟩
  · go_enter Tryd.func6, Tryd.ntmps6
    go_wp2_with (first
      | (go_at_call 8; refine (SH.out _ D0.out).mono ?_; rintro e w1 ⟨rfl, d1⟩; have D1 := hid_of d1; have l1 := d1.ld; clear d1)
      | (go_at_call 10; refine (RG.out _ D1.out).mono ?_; rintro e w2 ⟨rfl, d2⟩; have D2 := hid_of d2; have l2 := d2.ld; clear d2)
      | (go_at_call 11; refine (EN.out _ D2.out).mono ?_; rintro e w3 ⟨g, k, rfl, hk, H3⟩)
      | (go_at_call 17; have hx := HY; clear hx; refine (DE.out Z Y3 g3 k3 _ c2 l2 HZ.out.1 HY.out).mono ?_; rintro e w6 ⟨c6, p6, Z6, rfl, z6, H6⟩; have B6 := hid_of (And.intro (HZ.out.1.below H6.out) (HZ.out.2.below H6.out)); have lo := B6.out.1.di.ld; have lp := B6.out.1.ld)
      | (go_at_call 17; refine (DC.out _ g k H3.out).mono ?_; rintro e w4 ⟨c2, l2, Z, rfl, z1, HZ⟩; obtain ⟨Y1, Y2, v2, Y3, g3, k3, r1, r2, r3, HY⟩ := MK.out Z g k _ c2 l2 HZ.out)
      | (go_at_call 15; refine (SE.out _ _ c2 l2 B6.out.1).mono ?_; rintro e w7 ⟨rfl, hb7⟩))
    go_ret
    exact ⟨ret_bool (by simp), hb7⟩
  · go_enter Tryd.func6, Tryd.ntmps6
    go_wp2_with (first
      | (go_at_call 8; refine (SH.out _ D0.out).mono ?_; rintro e w1 ⟨rfl, d1⟩; have D1 := hid_of d1; have l1 := d1.ld; clear d1)
      | (go_at_call 10; refine (RG.out _ D1.out).mono ?_; rintro e w2 ⟨rfl, d2⟩; have D2 := hid_of d2; have l2 := d2.ld; clear d2)
      | (go_at_call 11; refine (EN.out _ D2.out).mono ?_; rintro e w3 ⟨g, k, rfl, hk, H3⟩)
      | (go_at_call 17; have hx := HY; clear hx; refine (DE.out Z Y3 g3 k3 _ c2 l2 HZ.out.1 HY.out).mono ?_; rintro e w6 ⟨c6, p6, Z6, rfl, z6, H6⟩; have B6 := hid_of (And.intro (HZ.out.1.below H6.out) (HZ.out.2.below H6.out)); have lo := B6.out.1.di.ld; have lp := B6.out.1.ld)
      | (go_at_call 17; refine (DC.out _ g k H3.out).mono ?_; rintro e w4 ⟨c2, l2, Z, rfl, z1, HZ⟩; obtain ⟨Y1, Y2, v2, Y3, g3, k3, r1, r2, r3, HY⟩ := MK.out Z g k _ c2 l2 HZ.out)
      | (go_at_call 15; refine (SE.out _ _ c2 l2 B6.out.1).mono ?_; rintro e w7 ⟨rfl, hb7⟩))
    go_ret
    exact ⟨ret_bool (by simp), hb7⟩
set_option maxHeartbeats 16000000 in
set_option maxRecDepth 20000 in
theorem back_cut (w : World) (hv : Vs w) (c : Sc) (o : Sy) (l : List (Pc × Sl)) (h : SyR w c o l) (hn : rightP o = true) (cut : Int) (ma : Option Addr) (m mc : Nat) (fm : Nat → Int) (hm : Src w ma m mc fm) (h0 : 0 ≤ cut) (hcut : cut < 4 + (symP o).length) : Calls Tryd.prog 6 #[.agg c.cells, .int .i64 cut, .slice ma m mc] w fun e w' => e = .returned (.bool true) ∧ Below w.heap.size w w' := by
  have hi := in_right hn
  have hbl := symP_le hn
  have hbyt : AllB (markL ++ symP o) := mark_by.app (symP_by hn)
  obtain ⟨L0, hL0⟩ : ∃ L0, L0 = markL ++ symP o := ⟨_, rfl⟩
  obtain ⟨E, hE⟩ : ∃ E, E = 4 + (symP o).length := ⟨_, rfl⟩
  have hEL : L0.length = E := by rw [hL0, List.length_append, show markL.length = 4 from rfl, hE]
  have hE0 : 0 < E := by omega
  have hEm : E ≤ 100004 := by omega
  have hmm : m ≤ 140737488351232 := hm.fit
  have D0 := hid_of (DB.start h hv)
  have SH : Hid (∀ X, DB w X c o l → Calls Tryd.prog 8 #[] X fun e Y => e = .returned (.bool true) ∧ DB w Y c o l) := hid_of fun X hX => (shown_any X hX.vs).mono fun e Y hh => ⟨hh.1, hX.below hh.2⟩
  have RG : Hid (∀ X, DB w X c o l → Calls Tryd.prog 10 #[.agg c.cells] X fun e Y => e = .returned (.bool true) ∧ DB w Y c o l) := hid_of fun X hX => (right_any X hX.vs c o l hX.rd).mono fun e Y hh => ⟨by rw [hh.1, rightS_P hX.rd.pl, hn], hX.below hh.2⟩
  have EN : Hid (∀ X, DB w X c o l → Calls Tryd.prog 11 #[.agg c.cells] X fun e Y => ∃ g k, e = .returned (.tuple #[.slice (some ⟨g, 0, none⟩) E k, .int .i64 0]) ∧ E ≤ k ∧ Hid ((∃ B, Ow Y B (.slice (some ⟨g, 0, none⟩) E k) L0) ∧ DB w Y c o l)) := hid_of fun X hX => (encode_yes X hX.vs c o l hX.rd hn).mono fun e Y hh => by
    obtain ⟨a, n, k, h1, ⟨B, _, h2⟩, h3⟩ := hh
    rw [← hL0] at h2
    obtain ⟨g, k2, hv, _, _⟩ := ow_at h2 (fun e => by rw [e] at hEL; simp at hEL; omega)
    rw [hEL] at hv
    rw [hv] at h1 h2
    injection hv with _ _ hk
    obtain ⟨_, _, h9⟩ := ow_src h2 (by rw [hL0]; exact hbyt) (by omega)
    exact ⟨g, k2, h1, h9, ⟨B, h2⟩, hX.below h3⟩
  have hlies : Lies (fun i => L0.getD i 0) 0 (markL ++ symP o) := by rw [hL0]; exact lies_self _
  have DC : Hid (∀ Y g k, (∃ B, Ow Y B (.slice (some ⟨g, 0, none⟩) E k) L0) ∧ DB w Y c o l → Calls Tryd.prog 17 #[.slice (some ⟨g, 0, none⟩) E k] Y fun e V => ∃ c2 l2 Z, e = .returned (.tuple #[.agg (Sc.cells c2), .int .i64 0, .int .i64 0]) ∧ (stT 26 ⟨V.heap.size, 0, none⟩ (.agg c2.cells)).run Tryd.prog (V.alloc (.cells Sc.zero.cells 26)) = .ok () Z ∧ Hid (BB w Z V.heap.size c c2 o l l2 ∧ Src Z (some ⟨g, 0, none⟩) E k (fun i => L0.getD i 0))) := hid_of fun Y g k hY => by
    obtain ⟨⟨B, ho⟩, hD⟩ := hY
    have hb0 : AllB L0 := by rw [hL0]; exact hbyt
    obtain ⟨s1, s2, s3⟩ := ow_src ho hb0 (by omega)
    refine (decode_own hD.vs ho hb0 (by omega)).mono fun e V hh => ?_
    obtain ⟨p1, p2⟩ := dec_of hn hlies
    rw [← hE, ← hEL] at p1 p2
    obtain ⟨c2, h1, h2, _, h4⟩ := hh
    rw [p1] at h1 h4
    obtain ⟨B2, _, h5⟩ := h4 rfl
    rw [p2] at h5
    obtain ⟨l2, h6⟩ := h5.rdi hi
    obtain ⟨Z, z1, z2, z3⟩ := stT_run c2.cells (BA.new V 26 Sc.zero.cells) rfl (by kernel_rfl) (Sc.one _)
    have bV : Below V.heap.size V Z := ((Below.refl _ _).alloc (Nat.le_refl _) _).trans (z3.bel (by simp) (Nat.le_refl _))
    have bYZ : Below Y.heap.size Y Z := h2.trans (bV.mono h2.size)
    exact ⟨c2, l2, Z, h1, z1, hid_of ⟨⟨hD.below bYZ, z2, h6.below bV⟩, s1.below bYZ⟩⟩
  have hL0b : bl (fun i => L0.getD i 0) E = L0 := by rw [← hEL]; exact bl_lies (lies_self L0)
  obtain ⟨LL, hLL⟩ : ∃ LL, LL = L0 ++ bl fm m := ⟨_, rfl⟩
  have hLe : LL.length = E + m := by rw [hLL, List.length_append, bl_len, hEL]
  have MK : Hid (∀ Z g k ga c2 l2, BB w Z ga c c2 o l l2 ∧ Src Z (some ⟨g, 0, none⟩) E k (fun i => L0.getD i 0) → ∃ Y1 Y2 v2 Y3 g3 k3, (mkN 30 (.int .i64 0) (.int .i64 (E : Int))).run Tryd.prog Z = .ok (.slice (some ⟨Z.heap.size, 0, none⟩) 0 E) Y1 ∧ (appN #[30, 30] 30 #[.slice (some ⟨Z.heap.size, 0, none⟩) 0 E, .slice (some ⟨g, 0, none⟩) E k]).run Tryd.prog Y1 = .ok v2 Y2 ∧ (appN #[30, 30] 30 #[v2, .slice ma m mc]).run Tryd.prog Y2 = .ok (.slice (some ⟨g3, 0, none⟩) ((E + m : Nat)) k3) Y3 ∧ Hid (Below Z.heap.size Z Y3 ∧ Ow Y3 Z.heap.size (.slice (some ⟨g3, 0, none⟩) (E + m) k3) LL)) := hid_of fun Z g k ga c2 l2 hZ => by
    obtain ⟨Y1, r1, o1, g1⟩ := make_row Z Z.heap.size E (Nat.le_refl _) (by omega)
    have b1 : Below Z.heap.size Z Y1 := gb_none g1
    obtain ⟨v2, Y2, r2, o2, g2⟩ := app_bytes (X := Y1) (some ⟨g, 0, none⟩) E k _ o1 (hZ.2.below b1).rd (fun e => by cases e) b1.size (by simp; omega) (.inr (by omega))
    have b2 : Below Z.heap.size Z Y2 := gb_low b1 g2 (fun q e => own_lo o1 q e)
    rw [List.nil_append, hL0b] at o2
    obtain ⟨v3, Y3, r3, o3, g4⟩ := app_bytes (X := Y2) ma m mc fm o2 (hm.below (hZ.1.di.be.trans (b2.mono hZ.1.di.be.size))).rd hm.nil b2.size (by omega) (.inl (by omega))
    have b3 : Below Z.heap.size Z Y3 := gb_low b2 g4 (fun q e => own_lo o2 q e)
    rw [← hLL] at o3
    obtain ⟨g3, k3, hv, _, q2⟩ := ow_at o3 (fun e => by rw [e] at hLe; simp at hLe; omega)
    rw [hLe] at hv
    rw [hv] at r3 o3
    exact ⟨Y1, Y2, v2, Y3, g3, k3, r1, r2, r3, b3, o3⟩
  have hmb : AllB (bl fm m) := fun x hx => by
    obtain ⟨j, hj, rfl⟩ := List.mem_map.1 hx
    exact hm.oct j (List.mem_range.1 hj)
  have hLb : AllB LL := by rw [hLL, hL0]; exact hbyt.app hmb
  obtain ⟨er, her⟩ : ∃ er, (decS (fun i => LL.getD i 0) LL.length).2 = er := ⟨_, rfl⟩
  have hboth : (er == 0) = true ∧ ((m : Int) == 0) = true ∨ (er == 0) = false ∧ ((m : Int) == 0) = false := by
    by_cases hm0 : m = 0
    · left
      refine ⟨?_, by simp [hm0]⟩
      have e1 : LL = L0 := by rw [hLL, hm0]; simp [bl]
      rw [← her, e1, hEL, hE, (dec_of hn hlies).1]
      rfl
    · right
      refine ⟨?_, by simp; omega⟩
      have : er ≠ 0 := by
        rw [← her, hLe]
        refine dec_more hn (f := fun i => LL.getD i 0) ?_ (by omega)
        have h1 := lies_self LL
        rw [hLL, hL0] at h1 ⊢
        exact h1.left
      simpa using this
  have DE : Hid (∀ Z Y3 g3 k3 ga c2 l2, BB w Z ga c c2 o l l2 → Below Z.heap.size Z Y3 ∧ Ow Y3 Z.heap.size (.slice (some ⟨g3, 0, none⟩) (E + m) k3) LL → Calls Tryd.prog 17 #[.slice (some ⟨g3, 0, none⟩) ((E + m : Nat)) k3] Y3 fun e U => ∃ c6 p6 Z6, e = .returned (.tuple #[.agg (Sc.cells c6), .int .i64 p6, .int .i64 er]) ∧ (stT 26 ⟨U.heap.size, 0, none⟩ (.agg c6.cells)).run Tryd.prog (U.alloc (.cells Sc.zero.cells 26)) = .ok () Z6 ∧ Hid (Below Z.heap.size Z Z6)) := hid_of fun Z Y3 g3 k3 ga c2 l2 hB hV => by
    refine (decode_own (hB.di.vs.below hV.1 hB.di.vs.big) hV.2 hLb (by omega)).mono fun e U hh => ?_
    obtain ⟨c6, h1, h2, _, _⟩ := hh
    rw [her] at h1
    obtain ⟨Z6, z1, z2, z3⟩ := stT_run c6.cells (BA.new U 26 Sc.zero.cells) rfl (by kernel_rfl) (Sc.one _)
    have bU : Below U.heap.size U Z6 := ((Below.refl _ _).alloc (Nat.le_refl _) _).trans (z3.bel (by simp) (Nat.le_refl _))
    have b1 : Below Z.heap.size Z U := hV.1.trans (h2.mono hV.1.size)
    exact ⟨c6, _, Z6, h1, z1, b1.trans (bU.mono b1.size)⟩
  have SE : Hid (∀ X ga c2 l2, BB w X ga c c2 o l l2 → Calls Tryd.prog 15 #[.agg c.cells, .agg c2.cells] X fun e Y => e = .returned (.bool true) ∧ Below w.heap.size w Y) := hid_of fun X ga c2 l2 hX => (same_eq X c c2 o l l2 hX.di.rd hX.rp).mono fun e Y hh => ⟨hh.1, hX.di.be.trans (hh.2.mono hX.di.be.size)⟩
  have d1 : decide ((0 : Int) ≤ cut) = true := decide_eq_true (by omega)
  have d3 : decide (cut < (E : Int)) = true := decide_eq_true (by omega)
  have d4 : cut < (E : Int) := by omega
  have d5 : cut ≤ (E : Int) := by omega
  obtain ⟨q, hq⟩ : ∃ q : Nat, cut = (q : Int) := ⟨cut.toNat, by omega⟩
  have hqE : q ≤ E := by omega
  obtain ⟨er7, her7⟩ : ∃ er7, (decS (fun i => L0.getD i 0) q).2 = er7 := ⟨_, rfl⟩
  have n7 : (er7 != 0) = true := by
    have : er7 ≠ 0 := by
      rw [← her7]
      refine dec_less hn ?_ hlies (by omega)
      intro i hi2
      have hm2 : L0.getD i 0 ∈ L0 := by rw [List.getD_eq_getElem?_getD, List.getElem?_eq_getElem (by omega)]; exact List.getElem_mem (by omega)
      have hb0 : AllB L0 := by rw [hL0]; exact hbyt
      exact hb0 _ hm2
    simpa using this
  have DQ : Hid (∀ X g k ga c2 l2, BB w X ga c c2 o l l2 ∧ Src X (some ⟨g, 0, none⟩) E k (fun i => L0.getD i 0) → E ≤ k → Calls Tryd.prog 17 #[.slice (some ⟨g, 0, none⟩) q k] X fun e U => ∃ c7 p7, e = .returned (.tuple #[.agg (Sc.cells c7), .int .i64 p7, .int .i64 er7]) ∧ (ldT 26 ⟨w.heap.size, 0, none⟩).run Tryd.prog U = .ok (.agg c.cells) U ∧ (ldT 26 ⟨ga, 0, none⟩).run Tryd.prog U = .ok (.agg c2.cells) U ∧ Hid (BB w U ga c c2 o l l2)) := hid_of fun X g k ga c2 l2 hX hk => by
    refine (decode_any X hX.1.di.vs (some ⟨g, 0, none⟩) q k _ ⟨hX.2.less q (by omega), (fun e => by cases e), by omega⟩ (by omega)).mono fun e U hh => ?_
    obtain ⟨c7, h1, h2, _, _⟩ := hh
    rw [her7] at h1
    have hb := hX.1.below h2
    exact ⟨c7, _, h1, hb.di.ld, hb.ld, hb⟩
  have d6 : (0 : Int) ≤ (q : Int) := by omega
  have d7 : (q : Int) ≤ (E : Int) := by omega
  subst hq
  simp only [show Sc.zero.cells = #[.string ⟨#[]⟩, .slice none 0 0, .slice none 0 0, .slice none 0 0] from rfl] at DC DE
  clear h hv hn hm hi hbl hbyt hL0 hEL hlies hL0b hLL hmb hLb hLe her hE hcut her7
  rcases hboth with ⟨n1, n2⟩ | ⟨n1, n2⟩
  · go_enter Tryd.func6, Tryd.ntmps6
    go_wp2_with (first
      | (go_at_call 8; refine (SH.out _ D0.out).mono ?_; rintro e w1 ⟨rfl, d1⟩; have D1 := hid_of d1; have l1 := d1.ld; clear d1)
      | (go_at_call 10; refine (RG.out _ D1.out).mono ?_; rintro e w2 ⟨rfl, d2⟩; have D2 := hid_of d2; have l2 := d2.ld; clear d2)
      | (go_at_call 11; refine (EN.out _ D2.out).mono ?_; rintro e w3 ⟨g, k, rfl, hk, H3⟩)
      | (go_at_call 17; have hx := B6; clear hx; refine (DQ.out _ g k _ c2 l2 B6.out hk).mono ?_; rintro e w8 ⟨c7, p7, rfl, l8, l9, H8⟩)
      | (go_at_call 17; have hx := HY; clear hx; refine (DE.out Z Y3 g3 k3 _ c2 l2 HZ.out.1 HY.out).mono ?_; rintro e w6 ⟨c6, p6, Z6, rfl, z6, H6⟩; have B6 := hid_of (And.intro (HZ.out.1.below H6.out) (HZ.out.2.below H6.out)); have lo := B6.out.1.di.ld; have lp := B6.out.1.ld)
      | (go_at_call 17; refine (DC.out _ g k H3.out).mono ?_; rintro e w4 ⟨c2, l2, Z, rfl, z1, HZ⟩; obtain ⟨Y1, Y2, v2, Y3, g3, k3, r1, r2, r3, HY⟩ := MK.out Z g k _ c2 l2 HZ.out)
      | (go_at_call 15; refine (SE.out _ _ c2 l2 H8.out).mono ?_; rintro e w7 ⟨rfl, hb7⟩))
    go_ret
    exact ⟨ret_bool (by simp), hb7⟩
  · go_enter Tryd.func6, Tryd.ntmps6
    go_wp2_with (first
      | (go_at_call 8; refine (SH.out _ D0.out).mono ?_; rintro e w1 ⟨rfl, d1⟩; have D1 := hid_of d1; have l1 := d1.ld; clear d1)
      | (go_at_call 10; refine (RG.out _ D1.out).mono ?_; rintro e w2 ⟨rfl, d2⟩; have D2 := hid_of d2; have l2 := d2.ld; clear d2)
      | (go_at_call 11; refine (EN.out _ D2.out).mono ?_; rintro e w3 ⟨g, k, rfl, hk, H3⟩)
      | (go_at_call 17; have hx := B6; clear hx; refine (DQ.out _ g k _ c2 l2 B6.out hk).mono ?_; rintro e w8 ⟨c7, p7, rfl, l8, l9, H8⟩)
      | (go_at_call 17; have hx := HY; clear hx; refine (DE.out Z Y3 g3 k3 _ c2 l2 HZ.out.1 HY.out).mono ?_; rintro e w6 ⟨c6, p6, Z6, rfl, z6, H6⟩; have B6 := hid_of (And.intro (HZ.out.1.below H6.out) (HZ.out.2.below H6.out)); have lo := B6.out.1.di.ld; have lp := B6.out.1.ld)
      | (go_at_call 17; refine (DC.out _ g k H3.out).mono ?_; rintro e w4 ⟨c2, l2, Z, rfl, z1, HZ⟩; obtain ⟨Y1, Y2, v2, Y3, g3, k3, r1, r2, r3, HY⟩ := MK.out Z g k _ c2 l2 HZ.out)
      | (go_at_call 15; refine (SE.out _ _ c2 l2 H8.out).mono ?_; rintro e w7 ⟨rfl, hb7⟩))
    go_ret
    exact ⟨ret_bool (by simp), hb7⟩
theorem back_any (w : World) (hv : Vs w) (c : Sc) (o : Sy) (l : List (Pc × Sl)) (h : SyR w c o l) (cut : Int) (ma : Option Addr) (m mc : Nat) (fm : Nat → Int) (hm : Src w ma m mc fm) : Calls Tryd.prog 6 #[.agg c.cells, .int .i64 cut, .slice ma m mc] w fun e w' => e = .returned (.bool true) ∧ Below w.heap.size w w' := by
  cases hr : rightP o
  · exact back_no w hv c o l h hr cut ma m mc
  · by_cases h0 : 0 ≤ cut
    · by_cases h1 : cut < 4 + (symP o).length
      · exact back_cut w hv c o l h hr cut ma m mc fm hm h0 h1
      · exact back_far w hv c o l h hr cut ma m mc fm hm h0 (by omega)
    · exact back_neg w hv c o l h hr cut ma m mc fm hm (by omega)
end Go.Proofs.YtfmkafbdjfakkaaDoor
