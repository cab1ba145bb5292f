/-
  Layer 11: an array is added; the law's example.
-/
import Derived.Test.YtgkfnfilomjphaaDoorVft
import Derived.Test.YtgkfnfilomjphaaDoorVbs
namespace Go.Proofs.YtgkfnfilomjphaaDoor
set_option linter.unusedVariables false
set_option linter.unusedSimpArgs false
open Go.ChangeShapes Go.WideShapes Go.ChangeAt Go.RowKit
attribute [local go_sem ↓] ldY_seal stY_seal ldF_seal stF_seal mkN_seal appN_seal

set_option maxHeartbeats 4000000 in
theorem arr1_any (w : World) (b : Nat) (c : Rc) (L T : List Tt) (A : List Int) (h : RwR w b c L T A) (hsz : ∀ t ∈ T, 0 ≤ t.sz ∧ t.sz ≤ 16384) (n el : Int) (p4 p5 : Nat) (c4 : w.cell? ⟨p4, 0, none⟩ = some (.int .i64 n)) (c5 : w.cell? ⟨p5, 0, none⟩ = some (.int .i64 el)) : Calls Tryd.prog 23 #[.pointer (some ⟨b, 0, none⟩), .pointer (some ⟨p4, 0, none⟩), .pointer (some ⟨p5, 0, none⟩)] w (PostT w (arrP T A n el)) := by
  have hb : Below w.heap.size w (w.alloc (.cells ZT 31)) := (Below.refl _ _).alloc (Nat.le_refl _) _
  have AC := hid_of (array_any _ b c L T A (h.below hb) hsz n el)
  have l4 := World.block_lt_of_cell? w ⟨p4, 0, none⟩ c4
  have l5 := World.block_lt_of_cell? w ⟨p5, 0, none⟩ c5
  have d4 : (w.alloc (.cells ZT 31)).cell? ⟨p4, 0, none⟩ = some (.int .i64 n) := (hb.cell (p := ⟨p4, 0, none⟩) l4).trans c4
  have d5 : (w.alloc (.cells ZT 31)).cell? ⟨p5, 0, none⟩ = some (.int .i64 el) := (hb.cell (p := ⟨p5, 0, none⟩) l5).trans c5
  have k1 := BA.new w 31 ZT
  have K1 := hid_of k1
  have HB := hid_of hb
  unfold ZT at AC d4 d5
  generalize arrP T A n el = r at *
  clear h hb k1 hsz
  go_enter Tryd.func23, Tryd.ntmps23
  go_wp2_with (go_at_call 24; refine AC.out.mono ?_; rintro e w1 ⟨rfl, hB1⟩; have B1 := hid_of hB1; obtain ⟨Z2, zr2, HZ2⟩ := fill_tq (ttE r.1) (K1.out.below hB1) rfl (by kernel_rfl) (tt_one _); clear hB1)
  refine ret_cell_tmp (p := 4) (q := 5) rfl rfl (load_blk HZ2.out.1 Tryd.underlying31 rfl (by kernel_rfl)) rfl ?_
  exact ⟨rfl, below_tqH (HB.out.trans (B1.out.mono HB.out.size)) HZ2.out.2 (by intro k hk e; omega)⟩
/-- What add leaves where it adds. -/
def PostAd (w : World) (L : List Tt) (m : Tt) (e : Ending) (w' : World) : Prop := ∃ (s : Sl) (T : List Tt), e = .returned (.tuple #[.slice s.a s.n s.c, .int .i64 (L.length : Int), .int .i64 0]) ∧ T.map ct = L.map ct ∧ w'.ownsRow w.heap.size 31 7 (.slice s.a s.n s.c) (L.length + 1) (flat ttE (T ++ [m])) ∧ Below w.heap.size w w'
theorem arrP_eq {T L : List Tt} (h : T.map ct = L.map ct) (n el : Int) : arrP T (alL T) n el = arrP L (alL L) n el := by rw [← arrP_ct T, h, arrP_ct, ← alL_ct T, h, alL_ct]
set_option maxRecDepth 20000 in
set_option maxHeartbeats 8000000 in
theorem addA_any (w : World) (hv : Vs w) (s : Sl) (L : List Tt) (h : LsR w s L) (hr : readB L = true) (hlen : L.length < 200) (n el : Int) (m : Tt) (hm : arrP L (alL L) n el = (m, 0)) (p4 p5 : Nat) (c4 : w.cell? ⟨p4, 0, none⟩ = some (.int .i64 n)) (c5 : w.cell? ⟨p5, 0, none⟩ = some (.int .i64 el)) : Calls Tryd.prog 12 #[.slice s.a s.n s.c, .func (.func 23) #[] #[.pointer (some ⟨p4, 0, none⟩), .pointer (some ⟨p5, 0, none⟩)]] w (PostAd w L m) := by
  have RD := hid_of (read_ls w hv s L h)
  unfold PostRd at RD
  rw [hr] at RD
  have hsl := h.li.len
  obtain ⟨q1, q2, q3⟩ := s
  dsimp only at hsl RD
  subst hsl
  have l4 := World.block_lt_of_cell? w ⟨p4, 0, none⟩ c4
  have l5 := World.block_lt_of_cell? w ⟨p5, 0, none⟩ c5
  have HC : Hid (∀ X, Below w.heap.size w X → X.cell? ⟨p4, 0, none⟩ = some (.int .i64 n) ∧ X.cell? ⟨p5, 0, none⟩ = some (.int .i64 el)) := hid_of fun X hX => ⟨(hX.cell (p := ⟨p4, 0, none⟩) l4).trans c4, (hX.cell (p := ⟨p5, 0, none⟩) l5).trans c5⟩
  have HM := hid_of hm
  have HLL : Hid (L.length ≤ 200) := hid_of (by omega)
  have d1 : decide ((L.length : Int) ≥ 200) = false := decide_eq_false (by omega)
  have d2 : decide ((200 : Int) ≤ (L.length : Int)) = false := decide_eq_false (by omega)
  have d3 : decide (200 ≤ L.length) = false := decide_eq_false (by omega)
  clear hv h hr hlen hm c4 c5 l4 l5
  go_enter Tryd.func12, Tryd.ntmps12
  go_upto_region 9 with (first
    | (have hx := HO; clear hx; go_at_call 23; refine (arr1_any _ b c L T (alL T) HO.out.1.rw HO.out.1.fnd.inv.sz n el p4 p5 (HC.out _ HO.out.1.be).1 (HC.out _ HO.out.1.be).2).mono ?_; rw [arrP_eq HO.out.2, HM.out]; rintro e w2 ⟨rfl, hB2⟩; have B2 := hid_of hB2; obtain ⟨Z2, zr2, HZ2⟩ := fill_tq (ttE m) (BA.new w2 31 ZT) rfl (by kernel_rfl) (tt_one _); unfold ZT at zr2; clear hB2)
    | (go_at_call 15; refine RD.out.mono ?_; rintro e w1 ⟨b, c, T, M, g1, rfl, hli, hO, hT⟩; have HO := hid_of (And.intro hO (hO.fnd.all (hT rfl)).2); clear hO hT hli))
  have bZ : Below w2.heap.size w2 Z2 := by
    have := gb_put HZ2.out.2
    exact ⟨this.os, this.tape, this.output, this.size, fun k hk => this.block k hk (by simp)⟩
  have hTL : T.length = L.length := by have := congrArg List.length HO.out.2; simpa using this
  have O2 := (HO.out.1.call B2.out).call bZ
  have HLL2 := HLL.out
  obtain ⟨iY, y1, y2, y3, y4⟩ := infoY'
  obtain ⟨s', Y, r1, r2, r3, r4⟩ := app_elG (X := Z2.drew) Tryd.underlying22 y1 y2 y3 y4 rfl (by omega) (ttE m) rfl (by intro u hu; simp [ttE] at hu; rcases hu with rfl | rfl | rfl | rfl | rfl | rfl | rfl <;> rfl) O2.ty O2.be.size (by unfold maxLen; omega) (by omega)
  have hrun : (appN #[22, 22] 22 #[.slice c.ty.a c.ty.n c.ty.c, .slice (some ⟨Z2.heap.size, 0, none⟩) 1 1]).run Tryd.prog (Z2.alloc (.cells (ttE m) 31)).drew = .ok (.slice s'.a s'.n s'.c) Y := r1
  have c1 : Z2.cell? ⟨b, 1, none⟩ = some (.slice c.ty.a c.ty.n c.ty.c) := O2.bx.cell 1
  have cA : (Z2.alloc (.cells (ttE m) 31)).cell? ⟨b, 1, none⟩ = some (.slice c.ty.a c.ty.n c.ty.c) := (((Below.refl Z2.heap.size Z2).alloc (Nat.le_refl _) (.cells (ttE m) 31)).cell (p := ⟨b, 1, none⟩) O2.bx.lt).trans c1
  have hBd : BA Z2.drew w2.heap.size 31 (ttE m) := HZ2.out.1
  have lm := ldT_run hBd Tryd.underlying31 rfl (by kernel_rfl)
  have u1 := HZ2.out.1.lt
  have u2 := O2.bx.lt
  have HY : Hid (Y.ownsRow w.heap.size 31 7 (.slice s'.a s'.n s'.c) (L.length + 1) (flat ttE (T ++ [m])) ∧ Below w.heap.size w Y) := by
    refine hid_of ⟨by rw [← hTL, flat_snoc]; exact r2, ?_⟩
    have t : Tq (Z2.drew.alloc (.cells (ttE m) 31)) Y (fun j => (Value.slice c.ty.a c.ty.n c.ty.c).ownBlock = some j) := Tq.gb r3 (fun k e => e)
    exact below_tqH (O2.be.drew.alloc O2.be.size _) t (fun k hk e => by have := own_lo O2.ty k e; omega)
  simp only [ttE] at lm hrun cA
  clear r1 r2 r3 r4 y1 y2 y3 y4 O2 hBd bZ hTL HLL2
  go_region
  all_goals (go_wp2_with fail)
  all_goals (go_ret3; exact ⟨s', T, rfl, HO.out.2, HY.out.1, HY.out.2⟩)
end Go.Proofs.YtgkfnfilomjphaaDoor
