/-
  Layer 11: a record is added behind a list.
-/
import Derived.Test.YtgkfnfilomjphaaDoorVad
namespace Go.Proofs.YtgkfnfilomjphaaDoor
set_option linter.unusedVariables false
set_option linter.unusedSimpArgs false
open Go.ChangeShapes Go.WideShapes Go.ChangeAt Go.RowKit Go.Maps
attribute [local go_sem ↓] ldY_seal stY_seal ldF_seal stF_seal mkN_seal appN_seal

theorem nmU_pre {w X Y : World} {g k : Nat} {N : List Bs} {ok : Bool} (hb : Below w.heap.size w X) (hg : g < w.heap.size) (h : NmU X Y g k N ok) : NmU w Y g k N ok := by
  refine ⟨(Tq.below hb).trans h.1, ?_⟩
  have e := hb.block g hg
  rcases h.2 with ⟨h1, h2⟩ | ⟨m, h1, h2, h3⟩
  · exact .inl ⟨h1, h2.trans e⟩
  · refine .inr ⟨m, Nat.le_trans hb.size h1, h2, h3.trans ?_⟩
    unfold World.setCell
    simp only [Array.getElem?_modify, e]
set_option maxHeartbeats 8000000 in
theorem rec1_any (w0 w : World) (b : Nat) (c : Rc) (L T : List Tt) (M : List Value) (g : Nat) (H : RwO w0 w b c L T M g) (hLl : L.length < 140737488355328) (base : Int) (s : Sl) (fs : List Fd) (hf : RdV w0 3 s fs.length (flat fdE fs)) (hs : ∀ f ∈ fs, f.nm.size ≤ maxLen) (p5 p11 : Nat) (c5 : w.cell? ⟨p5, 0, none⟩ = some (.int .i64 base)) (c11 : w.cell? ⟨p11, 0, none⟩ = some (.slice s.a s.n s.c)) : Calls Tryd.prog 13 #[.pointer (some ⟨b, 0, none⟩), .pointer (some ⟨p5, 0, none⟩), .pointer (some ⟨p11, 0, none⟩)] w (PostRec w0 w T g base fs) := by
  have hb : Below w.heap.size w (w.alloc (.cells ZT 31)) := (Below.refl _ _).alloc (Nat.le_refl _) _
  have RC := hid_of (record_any w0 _ b c L T M g (H.call hb) hLl base s fs hf hs)
  have l5 := World.block_lt_of_cell? w ⟨p5, 0, none⟩ c5
  have l11 := World.block_lt_of_cell? w ⟨p11, 0, none⟩ c11
  have d5 : (w.alloc (.cells ZT 31)).cell? ⟨p5, 0, none⟩ = some (.int .i64 base) := (hb.cell (p := ⟨p5, 0, none⟩) l5).trans c5
  have d11 : (w.alloc (.cells ZT 31)).cell? ⟨p11, 0, none⟩ = some (.slice s.a s.n s.c) := (hb.cell (p := ⟨p11, 0, none⟩) l11).trans c11
  have K1 := hid_of (BA.new w 31 ZT)
  have HB := hid_of hb
  have HGW : Hid (g < w.heap.size) := hid_of (H.na.lt g H.ng).2
  have HGR : Hid (∀ q, (w.alloc (.cells ZT 31)).heap[q]? = some (.cells ZT 31 (0, 0)) → q ≠ g) := hid_of fun q hq e => own_boxH (H.call hb).na hq (by decide) (H.call hb).ng e.symm
  unfold ZT at RC d5 d11
  clear H hb hf hs hLl c5 c11
  go_enter Tryd.func13, Tryd.ntmps13
  go_wp2_with (go_at_call 14; refine RC.out.mono ?_; rintro e w1 ⟨sl, rfl, hnu, hfo⟩; have HNU := hid_of (And.intro hnu hfo); obtain ⟨Z2, zr2, HZ2⟩ := fill_tq (ttE (recP T (alL T) base fs sl).1) (K1.out.tq hnu.1 (HGR.out _ K1.out)) rfl (by kernel_rfl) (tt_one _); clear hnu hfo)
  refine ret_cell_tmp (p := 4) (q := 5) rfl rfl (load_blk HZ2.out.1 Tryd.underlying31 rfl (by kernel_rfl)) rfl ?_
  have hR := K1.out.tq HNU.out.1.1 (HGR.out _ K1.out)
  refine ⟨sl, rfl, (nmU_pre HB.out HGW.out HNU.out.1).step HZ2.out.2 HGW.out (fun j e => by subst e; exact ⟨Nat.le_refl _, _, _, _, hR⟩), HZ2.out.2.own HNU.out.2 (fun q hq e => own_boxH HNU.out.2 hR (by decide) hq e)⟩
theorem lay_nm (T : List Tt) (A : List Int) : ∀ {fs : List Fd} (h : ∀ f ∈ fs, f.nm.size ≤ maxLen) (s : Int), ∀ f ∈ layF T A s fs, f.nm.size ≤ maxLen
  | [], _, _, f, hf => by cases hf
  | x :: r, h, s, f, hf => by
    rw [layF] at hf
    rcases List.mem_cons.1 hf with rfl | hf
    · exact h x (List.mem_cons_self ..)
    · exact lay_nm T A (fun y hy => h y (List.mem_cons_of_mem _ hy)) _ f hf
theorem in_ct {T L : List Tt} (h : T.map ct = L.map ct) {t : Tt} (ht : t ∈ T) : ∃ u ∈ L, t.fs = u.fs := by
  have : ct t ∈ L.map ct := by rw [← h]; exact List.mem_map.2 ⟨t, ht, rfl⟩
  obtain ⟨u, hu, hc⟩ := List.mem_map.1 this
  have e : (ct u).fs = (ct t).fs := by rw [hc]
  exact ⟨u, hu, e.symm⟩
/-- What add leaves, a record to be added. -/
def PostAr (w : World) (L : List Tt) (base : Int) (fs : List Fd) (e : Ending) (w' : World) : Prop := Below w.heap.size w w' ∧ ((∃ er : Int, er ≠ 0 ∧ e = .returned (.tuple #[.slice none 0 0, .int .i64 0, .int .i64 er])) ∨ (L.length < 200 ∧ readB L = true ∧ ∃ (s : Sl) (T : List Tt) (sl : Sl) (m : Tt), recP T (alL T) base fs sl = (m, 0) ∧ T.map ct = L.map ct ∧ e = .returned (.tuple #[.slice s.a s.n s.c, .int .i64 (L.length : Int), .int .i64 0]) ∧ LsR w' s (T ++ [m])))
set_option maxRecDepth 20000 in
set_option maxHeartbeats 16000000 in
theorem addR_any (w : World) (hv : Vs w) (s : Sl) (L : List Tt) (h : LsR w s L) (base : Int) (fsl : Sl) (fs : List Fd) (hf : RdV w 3 fsl fs.length (flat fdE fs)) (hs : ∀ f ∈ fs, f.nm.size ≤ maxLen) (p5 p11 : Nat) (c5 : w.cell? ⟨p5, 0, none⟩ = some (.int .i64 base)) (c11 : w.cell? ⟨p11, 0, none⟩ = some (.slice fsl.a fsl.n fsl.c)) : Calls Tryd.prog 12 #[.slice s.a s.n s.c, .func (.func 13) #[] #[.pointer (some ⟨p5, 0, none⟩), .pointer (some ⟨p11, 0, none⟩)]] w (PostAr w L base fs) := by
  have RD := hid_of (read_ls w hv s L h)
  unfold PostRd at RD
  have hsl := h.li.len
  have HH := hid_of h
  obtain ⟨q1, q2, q3⟩ := s
  dsimp only at hsl RD
  subst hsl
  have l5 := World.block_lt_of_cell? w ⟨p5, 0, none⟩ c5
  have l11 := World.block_lt_of_cell? w ⟨p11, 0, none⟩ c11
  have HC : Hid (∀ X, Below w.heap.size w X → X.cell? ⟨p5, 0, none⟩ = some (.int .i64 base) ∧ X.cell? ⟨p11, 0, none⟩ = some (.slice fsl.a fsl.n fsl.c)) := hid_of fun X hX => ⟨(hX.cell (p := ⟨p5, 0, none⟩) l5).trans c5, (hX.cell (p := ⟨p11, 0, none⟩) l11).trans c11⟩
  have HF := hid_of hf
  have HSS := hid_of hs
  clear hv h hf hs c5 c11 l5 l11
  by_cases hlen : 200 ≤ L.length
  · have d1 : decide ((L.length : Int) ≥ 200) = true := decide_eq_true (by omega)
    have d2 : decide ((200 : Int) ≤ (L.length : Int)) = true := decide_eq_true (by omega)
    have d3 : decide (200 ≤ L.length) = true := decide_eq_true hlen
    clear hlen
    go_enter Tryd.func12, Tryd.ntmps12
    go_wp2
    go_ret3
    exact ⟨Below.refl _ _, .inl ⟨110, by decide, rfl⟩⟩
  have d1 : decide ((L.length : Int) ≥ 200) = false := decide_eq_false (by omega)
  have d2 : decide ((200 : Int) ≤ (L.length : Int)) = false := decide_eq_false (by omega)
  have d3 : decide (200 ≤ L.length) = false := decide_eq_false hlen
  have HLL : Hid (L.length < 200) := hid_of (by omega)
  clear hlen
  cases hr : readB L
  · rw [hr] at RD
    clear hr
    go_enter Tryd.func12, Tryd.ntmps12
    go_wp2_with (go_at_call 15; refine RD.out.mono ?_; rintro e w1 ⟨b, c, T, M, g1, rfl, hli, hO, hT⟩; have HO := hid_of hO; clear hO hT hli)
    go_ret3
    exact ⟨HO.out.be, .inl ⟨110, by decide, rfl⟩⟩
  rw [hr] at RD
  have HRR := hid_of hr
  clear hr
  go_enter Tryd.func12, Tryd.ntmps12
  go_upto_if 28 with (first
    | (have hx := HO; clear hx; go_at_call 13; refine (rec1_any w _ b c L T M g1 HO.out.1 (by have := HLL.out; omega) base fsl fs HF.out HSS.out p5 p11 (HC.out _ HO.out.1.be).1 (HC.out _ HO.out.1.be).2).mono ?_; rintro e w2 ⟨sl, rfl, hnu, hfo⟩; have HNU := hid_of (And.intro hnu hfo); obtain ⟨Z2, zr2, HZ2⟩ := fill_tq (ttE (recP T (alL T) base fs sl).1) (BA.new w2 31 ZT) rfl (by kernel_rfl) (tt_one _); unfold ZT at zr2; clear hnu hfo)
    | (go_at_call 15; refine RD.out.mono ?_; rintro e w1 ⟨b, c, T, M, g1, rfl, hli, hO, hT⟩; have HO := hid_of (And.intro hO (hO.fnd.all (hT rfl)).2); clear hO hT hli))
  have bZ : Below w2.heap.size w2 Z2 := by
    have := gb_put HZ2.out.2
    exact ⟨this.os, this.tape, this.output, this.size, fun k hk => this.block k hk (by simp)⟩
  have hTL : T.length = L.length := by have := congrArg List.length HO.out.2; simpa using this
  have hgB : w.heap.size ≤ g1 := own_lo HO.out.1.na g1 HO.out.1.ng
  have hbe : Below w.heap.size w Z2 := (below_tq HO.out.1.be HNU.out.1.1 (fun j e => by omega)).trans (bZ.mono (by have := HO.out.1.be.size; have := HNU.out.1.1.size; omega))
  obtain ⟨r, hrr⟩ : ∃ r, r = recP T (alL T) base fs sl := ⟨_, rfl⟩
  rw [← hrr] at HNU HZ2 zr2
  have HRP := hid_of hrr
  have HBE := hid_of hbe
  have HTL := hid_of hTL
  have HBZ := hid_of bZ
  rw [← hrr]
  by_cases he : r.2 = 0
  · obtain ⟨m, er⟩ := r
    dsimp only at he
    subst he
    have e1 : ((0 : Int) != 0) = false := rfl
    have O2 : ∃ M2, RwO w w2 b c L T M2 g1 := by
      obtain ⟨t, hh⟩ := HNU.out.1
      rcases hh with ⟨hf, _⟩ | ⟨q, _, _, hb⟩
      · simp at hf
      · exact ⟨_, HO.out.1.put t hb⟩
    obtain ⟨M2, O2⟩ := O2
    have O3 := O2.call bZ
    have FM := own_belowH HNU.out.2 bZ
    have HLL2 := HLL.out
    obtain ⟨iY, y1, y2, y3, y4⟩ := infoY'
    obtain ⟨s', Y, r1, r2, r3, r4⟩ := app_elG (X := Z2.drew) Tryd.underlying22 y1 y2 y3 y4 rfl (by omega) (ttE m) rfl (by intro u hu; simp [ttE] at hu; rcases hu with rfl | rfl | rfl | rfl | rfl | rfl | rfl <;> rfl) O3.ty O3.be.size (by unfold maxLen; omega) (by omega)
    have hrun : (appN #[22, 22] 22 #[.slice c.ty.a c.ty.n c.ty.c, .slice (some ⟨Z2.heap.size, 0, none⟩) 1 1]).run Tryd.prog (Z2.alloc (.cells (ttE m) 31)).drew = .ok (.slice s'.a s'.n s'.c) Y := r1
    have c1 : Z2.cell? ⟨b, 1, none⟩ = some (.slice c.ty.a c.ty.n c.ty.c) := O3.bx.cell 1
    have cA : (Z2.alloc (.cells (ttE m) 31)).cell? ⟨b, 1, none⟩ = some (.slice c.ty.a c.ty.n c.ty.c) := (((Below.refl Z2.heap.size Z2).alloc (Nat.le_refl _) (.cells (ttE m) 31)).cell (p := ⟨b, 1, none⟩) O3.bx.lt).trans c1
    have hBd : BA Z2.drew w2.heap.size 31 (ttE m) := HZ2.out.1
    have lm := ldT_run hBd Tryd.underlying31 rfl (by kernel_rfl)
    have u1 := HZ2.out.1.lt
    have u2 := O3.bx.lt
    have tA : Tq (Z2.drew.alloc (.cells (ttE m) 31)) Y (fun j => (Value.slice c.ty.a c.ty.n c.ty.c).ownBlock = some j) := Tq.gb r3 (fun k e => e)
    have hown : ∀ {k : Nat} {v : Value} {n : Nat} {xs : List Value}, Z2.ownsRow w.heap.size 33 k v n xs → Y.ownsRow w.heap.size 33 k v n xs := fun {k v n xs} ho => tA.own (own_belowH (X := Z2.drew) ho ((Below.refl _ _).alloc (Nat.le_refl _) _)) (fun q hq e => own_two ho O3.ty (by decide) hq e)
    have HY : Hid (LsR Y s' (T ++ [m]) ∧ Below w.heap.size w Y) := by
      have hm200 : m.fs.length ≤ 200 := made_fs (L := L) (T := T) (A := alL T) (k := 8) (t := ⟨10, 0, 0, base, ⟨none, 0, 0⟩, 0, 0, fs⟩) (m := (recP T (alL T) base fs ⟨none, 0, 0⟩).1) (e := (recP T (alL T) base fs ⟨none, 0, 0⟩).2) (by unfold madeC; rfl) |> fun h => by
        have e2 : (recP T (alL T) base fs ⟨none, 0, 0⟩).1.fs = (recP T (alL T) base fs sl).1.fs := by
          unfold recP heldP recT
          split
          · split <;> rfl
          · rfl
        rw [e2, ← hrr] at h
        exact h
      have hmn : ∀ f ∈ m.fs, f.nm.size ≤ maxLen := by
        have e2 : m.fs = [] ∨ m.fs = layF T (alL T) (begS T base) fs := by
          have e3 : m = (recP T (alL T) base fs sl).1 := by rw [← hrr]
          rw [e3]
          unfold recP heldP recT
          split
          · split
            · exact .inl rfl
            · exact .inr rfl
          · exact .inl rfl
        rcases e2 with e2 | e2
        · rw [e2]; intro f hf; cases hf
        · rw [e2]
          exact lay_nm _ _ HSS.out _
      refine hid_of ⟨⟨?_, ?_, ?_, ?_⟩, ?_⟩
      · have h1 := own_rdv r2 (by omega)
        rw [← flat_snoc] at h1
        rwa [show T.length + 1 = (T ++ [m]).length by simp] at h1
      · intro t ht
        rcases List.mem_append.1 ht with ht | ht
        · refine own_rdv (hown (O3.fs t ht)) ?_
          obtain ⟨u, hu, hc⟩ := in_ct HO.out.2 ht
          rw [hc]
          exact (HH.out.lf u hu).most
        · rw [List.mem_singleton.1 ht]
          exact own_rdv (hown FM) (by omega)
      · intro t ht f hf
        rcases List.mem_append.1 ht with ht | ht
        · obtain ⟨u, hu, hc⟩ := in_ct HO.out.2 ht
          rw [hc] at hf
          exact HH.out.nm u hu f hf
        · rw [List.mem_singleton.1 ht] at hf
          exact hmn f hf
      · rw [List.length_append, hTL]
        have : ([m] : List Tt).length = 1 := rfl
        omega
      · exact below_tqH (O3.be.drew.alloc O3.be.size _) tA (fun k hk e => by have := own_lo O3.ty k e; omega)
    simp only [ttE] at lm hrun cA
    clear r1 r2 r3 r4 y1 y2 y3 y4 O3 O2 hBd bZ hTL HLL2 FM tA hown hbe hrr hgB
    go_upto_region 9 with fail
    go_region
    all_goals (go_wp2_with fail)
    all_goals (go_ret3; exact ⟨HY.out.2, .inr ⟨HLL.out, HRR.out, s', T, sl, m, HRP.out.symm, HO.out.2, rfl, HY.out.1⟩⟩)
  · have e1 : (r.2 != 0) = true := by simpa using he
    have HE := hid_of he
    clear hbe hTL bZ hrr he hgB
    go_wp2
    go_ret3
    exact ⟨HBE.out, .inl ⟨r.2, HE.out, rfl⟩⟩
end Go.Proofs.YtgkfnfilomjphaaDoor
