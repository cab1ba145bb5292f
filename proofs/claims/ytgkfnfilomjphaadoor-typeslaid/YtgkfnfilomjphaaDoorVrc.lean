/-
  Layer 11: a record is laid out.
-/
import Derived.Test.YtgkfnfilomjphaaDoorVro
import Derived.Deep.DeepCutAuto
namespace Go.Proofs.YtgkfnfilomjphaaDoor
set_option linter.unusedVariables false
set_option linter.unusedSimpArgs false
open Go.ChangeShapes Go.WideShapes Go.ChangeAt Go.RowKit Go.Maps
attribute [local go_sem ↓] ldY_seal stY_seal ldF_seal stF_seal

/-- What becomes of the names' places. -/
def NmU (X w' : World) (g k : Nat) (N : List Bs) (ok : Bool) : Prop := Tq X w' (fun j => j = g) ∧ ((ok = false ∧ w'.heap[g]? = X.heap[g]?) ∨ ∃ m, X.heap.size ≤ m ∧ MapS w' m N ∧ w'.heap[g]? = (X.setCell ⟨g, k, none⟩ (.map (some m))).heap[g]?)
def PostRec (w0 w : World) (T : List Tt) (g : Nat) (base : Int) (fs : List Fd) (e : Ending) (w' : World) : Prop := ∃ sl : Sl, e = .returned (.tuple #[.agg (ttE (recP T (alL T) base fs sl).1), .int .i64 (recP T (alL T) base fs sl).2]) ∧ NmU w w' g T.length (fsN fs).reverse (decide ((recP T (alL T) base fs sl).2 = 0)) ∧ w'.ownsRow w0.heap.size 33 3 (.slice (recP T (alL T) base fs sl).1.sl.a (recP T (alL T) base fs sl).1.sl.n (recP T (alL T) base fs sl).1.sl.c) (recP T (alL T) base fs sl).1.fs.length (flat fdE (recP T (alL T) base fs sl).1.fs)
theorem postRec_bad {w0 w w' : World} {T : List Tt} {g : Nat} {base : Int} {fs : List Fd} (h : recOk T (alL T) base fs = false) (hb : NmU w w' g T.length (fsN fs).reverse false) : PostRec w0 w T g base fs (.returned (.tuple #[.agg (ttE zeroT), .int .i64 110])) w' := by
  have e : ∀ sl, recP T (alL T) base fs sl = (zeroT, 110) := fun sl => by unfold recP; rw [h]; rfl
  refine ⟨⟨none, 0, 0⟩, ?_, ?_, ?_⟩
  · rw [e]
  · rw [e]; exact hb
  · rw [e]; exact own_nilH _ _ _ _
theorem nmU_below {X w' : World} {g k : Nat} {N : List Bs} (hg : g < X.heap.size) (h : Below X.heap.size X w') : NmU X w' g k N false := ⟨Tq.below h, .inl ⟨rfl, h.block g hg⟩⟩
/-- The boxes of the answer and of the type that is made. -/
structure RcA (w X : World) (base lv sz : Int) : Prop where
  be : Below w.heap.size w X
  rb : BA X w.heap.size 31 ZT
  tb : BA X (w.heap.size + 1) 31 (ttE ⟨10, 0, 0, base, ⟨none, 0, 0⟩, sz, lv, []⟩)
/-- The answer's place is emptied. -/
theorem RcA.zero {w X : World} {base lv sz : Int} (h : RcA w X base lv sz) : ∃ Z, (stT 31 ⟨w.heap.size, 0, none⟩ (.agg ZT)).run Tryd.prog X = .ok () Z ∧ Hid (BA Z w.heap.size 31 ZT ∧ Below w.heap.size w Z) := by
  obtain ⟨Z, z1, z2⟩ := fill_at (w := w) (ttE zeroT) h.rb h.be (Nat.le_refl _) rfl (by kernel_rfl) (tt_one _)
  exact ⟨Z, z1, z2.out.1, z2.out.2.1⟩
theorem NmU.step {w X Y : World} {g k : Nat} {N : List Bs} {ok : Bool} {P : Nat → Prop} (h : NmU w X g k N ok) (t : Tq X Y P) (hg : g < w.heap.size) (hP : ∀ j, P j → w.heap.size ≤ j ∧ ∃ cs ty fr, X.heap[j]? = some (.cells cs ty fr)) : NmU w Y g k N ok := by
  have hsz := h.1.size
  have eg : Y.heap[g]? = X.heap[g]? := t.blk g (by omega) (fun e => by have := (hP g e).1; omega)
  refine ⟨⟨t.os.trans h.1.os, t.tape.trans h.1.tape, t.output.trans h.1.output, Nat.le_trans hsz t.size, fun j hj hn => (t.blk j (by omega) (fun e => by have := (hP j e).1; omega)).trans (h.1.blk j hj hn)⟩, ?_⟩
  rcases h.2 with ⟨h1, h2⟩ | ⟨m, h1, h2, h3⟩
  · exact .inl ⟨h1, eg.trans h2⟩
  · exact .inr ⟨m, h1, h2.block (t.blk m h2.lt (fun e => map_ne h2.is (hP m e).2 rfl)), eg.trans h3⟩
theorem NmU.call {w X Y : World} {g k : Nat} {N : List Bs} {ok : Bool} (h : NmU w X g k N ok) (hb : Below X.heap.size X Y) (hg : g < w.heap.size) : NmU w Y g k N ok := h.step (P := fun _ => False) (Tq.below hb) hg (fun _ e => e.elim)
theorem NmU.weak {w X : World} {g k : Nat} {N : List Bs} (ok : Bool) (h : NmU w X g k N true) : NmU w X g k N ok := ⟨h.1, .inr (h.2.resolve_left (fun e => by cases e.1))⟩
/-- While fields are laid. -/
structure RcC (w X : World) (T : List Tt) (g : Nat) (N : List Bs) (base lv sz : Int) (sl : Sl) (n : Nat) (xs : List Fd) : Prop where
  nm : NmU w X g T.length N true
  rb : BA X w.heap.size 31 ZT
  tb : BA X (w.heap.size + 1) 31 (ttE ⟨10, 0, 0, base, sl, sz, lv, []⟩)
  ow : X.ownsRow (w.heap.size + 2) 33 3 (.slice sl.a sl.n sl.c) n (flat fdE xs)
section
variable {w0 w X Y : World} {b : Nat} {c : Rc} {L T : List Tt} {M : List Value} {g n : Nat} {N : List Bs} {base lv sz : Int} {sl : Sl} {xs : List Fd}
theorem RcC.ro (h : RcC w X T g N base lv sz sl n xs) (H : RwO w0 w b c L T M g) : ∃ M', RwO w0 X b c L T M' g := by
  obtain ⟨t, hh⟩ := h.nm
  rcases hh with ⟨h, _⟩ | ⟨m, _, _, hb⟩
  · cases h
  · exact ⟨_, H.put t hb⟩
theorem RcC.call (h : RcC w X T g N base lv sz sl n xs) (hb : Below X.heap.size X Y) (hg : g < w.heap.size) : RcC w Y T g N base lv sz sl n xs := ⟨h.nm.call hb hg, h.rb.below hb, h.tb.below hb, own_belowH h.ow hb⟩
theorem RcC.cellsT (h : RcC w X T g N base lv sz sl n xs) : ∃ cs ty fr, X.heap[w.heap.size + 1]? = some (.cells cs ty fr) := ⟨_, _, _, h.tb⟩
theorem RcC.cellsR (h : RcC w X T g N base lv sz sl n xs) : ∃ cs ty fr, X.heap[w.heap.size]? = some (.cells cs ty fr) := ⟨_, _, _, h.rb⟩
/-- The size is put. -/
theorem RcC.size (h : RcC w X T g N base lv sz sl n xs) (hg : g < w.heap.size) (z : Int) : RcC w (X.setCell ⟨w.heap.size + 1, 5, none⟩ (.int .i64 z)) T g N base lv z sl n xs := by
  have t : Tq X (X.setCell ⟨w.heap.size + 1, 5, none⟩ (.int .i64 z)) (fun j => j = w.heap.size + 1) := Tq.set rfl
  exact ⟨h.nm.step t hg (fun j e => by subst e; exact ⟨by omega, h.cellsT⟩), h.rb.tq t (by omega), h.tb.set _, t.own h.ow (fun q hq => by have := own_lo h.ow q hq; omega)⟩
/-- The row of fields is put. -/
theorem RcC.app {sl' : Sl} {n' : Nat} {xs' : List Fd} (h : RcC w X T g N base lv sz sl n xs) (hg : g < w.heap.size) (hb : BA Y (w.heap.size + 1) 31 ((ttE ⟨10, 0, 0, base, sl, sz, lv, []⟩).setIfInBounds 4 (.slice sl'.a sl'.n sl'.c))) (ho : Y.ownsRow (w.heap.size + 2) 33 3 (.slice sl'.a sl'.n sl'.c) n' (flat fdE xs')) (t : Tq X Y (fun y => y = w.heap.size + 1 ∨ (Value.slice sl.a sl.n sl.c).ownBlock = some y)) : RcC w Y T g N base lv sz sl' n' xs' := by
  refine ⟨h.nm.step t hg (fun j e => ?_), h.rb.tq t ?_, hb, ho⟩
  · rcases e with rfl | e
    · exact ⟨by omega, h.cellsT⟩
    · exact ⟨by have := own_lo h.ow j e; omega, own_blk h.ow e⟩
  · rintro (e | e)
    · omega
    · have := own_lo h.ow _ e; omega
end
theorem fill_tq {X : World} {ty : TypeId} {rs : Nat} {zs : Array Value} (cs : Array Value) (h0 : BA X rs ty zs) (hs : zs.size = cs.size) (hi : (Tryd.prog.info? ty).map (·.size) = some cs.size) (h1 : (cs.all fun x => x.oneCell') = true) : ∃ Z, (stT ty ⟨rs, 0, none⟩ (.agg cs)).run Tryd.prog X = .ok () Z ∧ Hid (BA Z rs ty cs ∧ Tq X Z (fun k => k = rs)) := by
  obtain ⟨Z, z1, z2, z3⟩ := stT_run cs h0 hs hi h1
  exact ⟨Z, z1, z2, z3⟩
/-- Behind takeNames. -/
theorem rc_names {w X Y : World} {T : List Tt} {g : Nat} {base lv sz : Int} {r : Bool} {fs : List Fd} (hg : g < w.heap.size) (h : RcA w X base lv sz) (hk : ∃ Z, Below X.heap.size X Z ∧ ((Y = Z ∧ r = false) ∨ ∃ m, X.heap.size ≤ m ∧ MapS Z m (fsN fs).reverse ∧ Y = Z.setCell ⟨g, 0 + T.length, none⟩ (.map (some m)))) : NmU w Y g T.length (fsN fs).reverse r ∧ BA Y w.heap.size 31 ZT ∧ BA Y (w.heap.size + 1) 31 (ttE ⟨10, 0, 0, base, ⟨none, 0, 0⟩, sz, lv, []⟩) := by
  obtain ⟨Z, hb, hk⟩ := hk
  have hbw : Below w.heap.size w Z := h.be.trans (hb.mono h.be.size)
  rcases hk with ⟨rfl, rfl⟩ | ⟨m, h1, h2, rfl⟩
  · exact ⟨⟨Tq.below hbw, .inl ⟨rfl, hbw.block g hg⟩⟩, h.rb.below hb, h.tb.below hb⟩
  · rw [Nat.zero_add]
    have t : Tq Z (Z.setCell ⟨g, T.length, none⟩ (.map (some m))) (fun k => k = g) := Tq.set rfl
    have hsz := h.be.size
    have hne : m ≠ g := by omega
    refine ⟨⟨(Tq.below hbw).trans t, .inr ⟨m, by omega, h2.block (Below.heap_setCell _ _ _ _ hne), ?_⟩⟩, (h.rb.below hb).tq t (by omega), (h.tb.below hb).tq t (by omega)⟩
    have e := hbw.block g hg
    unfold World.setCell
    simp only [Array.getElem?_modify, e]
/-- Behind Grow. -/
theorem rc_start {w X Y : World} {T : List Tt} {g : Nat} {N : List Bs} {base lv sz : Int} {sl : Sl} (hg : g < w.heap.size) (h : NmU w X g T.length N true ∧ BA X w.heap.size 31 ZT ∧ BA X (w.heap.size + 1) 31 (ttE ⟨10, 0, 0, base, ⟨none, 0, 0⟩, sz, lv, []⟩)) (ho : Y.ownsRow X.heap.size 33 3 (.slice sl.a sl.n sl.c) 0 []) (hb : Below X.heap.size X Y) : RcC w Y T g N base lv sz ⟨none, 0, 0⟩ 0 [] ∧ Y.ownsRow (w.heap.size + 2) 33 3 (.slice sl.a sl.n sl.c) 0 [] :=
  ⟨⟨h.1.call hb hg, h.2.1.below hb, h.2.2.below hb, own_nilH _ _ _ _⟩, own_base ho (by have := h.2.2.lt; omega)⟩
theorem rc_put {w X : World} {T : List Tt} {g : Nat} {N : List Bs} {base lv sz : Int} {sl : Sl} (hg : g < w.heap.size) (h : RcC w X T g N base lv sz ⟨none, 0, 0⟩ 0 [] ∧ X.ownsRow (w.heap.size + 2) 33 3 (.slice sl.a sl.n sl.c) 0 []) : RcC w (X.setCell ⟨w.heap.size + 1, 4, none⟩ (.slice sl.a sl.n sl.c)) T g N base lv sz sl 0 [] := by
  have t : Tq X (X.setCell ⟨w.heap.size + 1, 4, none⟩ (.slice sl.a sl.n sl.c)) (fun j => j = w.heap.size + 1) := Tq.set rfl
  exact h.1.app hg (h.1.tb.set _) (t.own h.2 (fun q hq => by have := own_lo h.2 q hq; omega)) (t.mono fun k _ e => .inl e)
theorem fs_take {fs : List Fd} {i : Nat} (h : i < fs.length) : fs.take (i + 1) = fs.take i ++ [fs[i]] := by rw [List.take_add_one, List.getElem?_eq_getElem h]; rfl
theorem vmeas {n i : Nat} (h : n - ((i : Int) + 1).toNat < n - ((i : Int)).toNat) (hw : wrap64 ((i : Int) + 1) = (i : Int) + 1) : n - (ivOf (.int .i64 (wrap64 ((i : Int) + 1)))).toNat < n - (ivOf (.int .i64 (i : Int))).toNat := by rw [hw]; exact h
theorem infoF3 : ∃ i : TypeInfo, Tryd.prog.info? 33 = some i ∧ i.zero = some (.agg #[.string ⟨#[]⟩, .int .i64 0, .int .i64 0]) ∧ i.size = 3 ∧ i.bytes = 32 := by obtain ⟨i, h1, h2, h3, h4⟩ := infoF; exact ⟨i, h1, h2, h4, h3⟩
attribute [local go_sem ↓] appN_seal
set_option maxRecDepth 100000 in
set_option maxHeartbeats 16000000 in
theorem record_any (w0 w : World) (b : Nat) (c : Rc) (L T : List Tt) (M : List Value) (g : Nat) (H : RwO w0 w b c L T M g) (hLl : L.length < 140737488355328) (base : Int) (s : Sl) (fs : List Fd) (hf : RdV w0 3 s fs.length (flat fdE fs)) (hs : ∀ f ∈ fs, f.nm.size ≤ maxLen) : Calls Tryd.prog 14 #[.pointer (some ⟨b, 0, none⟩), .int .i64 base, .slice s.a s.n s.c] w (PostRec w0 w T g base fs) := by
  have hsl := hf.len
  obtain ⟨q1, q2, q3⟩ := s
  dsimp only at hsl
  subst hsl
  have k1 := BA.new w 31 ZT
  have k2 := BA.new (w.alloc (.cells ZT 31)) 31 ZT
  rw [show (w.alloc (.cells ZT 31)).heap.size = w.heap.size + 1 by simp] at k2
  have k3 := k1.below ((Below.refl _ _).alloc (Nat.le_refl _) (.cells ZT 31))
  have bw : Below w.heap.size w ((w.alloc (.cells ZT 31)).alloc (.cells ZT 31)) := by go_grown
  obtain ⟨Z1, zr, HZ⟩ := fill_at (w := w) (ttE ⟨10, 0, 0, base, ⟨none, 0, 0⟩, 0, 0, []⟩) k2 bw (by omega) rfl (by kernel_rfl) (tt_one _)
  have HA1 : Hid (RcA w Z1 base 0 0) := hid_of ⟨HZ.out.2.1, k3.tq HZ.out.2.2 (by omega), HZ.out.1⟩
  simp only [ttE, ZT] at zr
  clear k1 k2 k3 bw HZ
  have HH := hid_of H
  have HF := hid_of hf
  have HSS := hid_of hs
  have HLl := hid_of hLl
  clear H hf hs hLl
  have hbw : b < w.heap.size := HH.out.bx.lt
  have HGW : Hid (g < w.heap.size) := hid_of (HH.out.na.lt g HH.out.ng).2
  have HI : Hid (Calls Tryd.prog 16 #[.pointer (some ⟨b, 0, none⟩), .int .i64 base, .int .i64 10] Z1 fun e w' => e = .returned (.bool (isB T base 10)) ∧ w' = Z1) := hid_of (is_any Z1 b c L T (alL T) (HH.out.rw.below HA1.out.be) base 10)
  obtain ⟨Z2, zr2, HZ2⟩ := HA1.out.zero
  simp only [ZT] at zr2
  go_enter Tryd.func14, Tryd.ntmps14
  go_upto_if 14 with fail
  go_cut [] (fun X => (decide (base = 0) || (isB T base 10 && !decide ((tyD T base).lv = 3))) = true ∧ Hid (RcA w X base (begL T base) (begS T base)))
  case first =>
    by_cases h0 : base = 0
    · have d1 : (base != 0) = false := by simpa using h0
      have e1 : (decide (base = 0) || (isB T base 10 && !decide ((tyD T base).lv = 3))) = true := by rw [decide_eq_true h0, Bool.true_or]
      have e2 : Hid (RcA w Z1 base (begL T base) (begS T base)) := by unfold begL begS; rw [if_pos h0, if_pos h0]; exact HA1
      have E1 := hid_of e1
      clear h0 e1
      go_wp2
      go_meet
      case rel => exact ⟨E1.out, e2⟩
    · have d1 : (base != 0) = true := by simpa using h0
      cases h10 : isB T base 10
      · have hbad : Hid (recOk T (alL T) base fs = false) := hid_of (by unfold recOk; rw [decide_eq_false h0, h10]; rfl)
        rw [h10] at HI
        clear h0 h10
        go_wp2_with (go_at_call 16; refine HI.out.mono ?_; rintro e w1 ⟨rfl, hw⟩; rw [hw]; clear hw)
        refine ret_cell_tmp (p := 6) (q := 7) rfl rfl (load_blk HZ2.out.1 Tryd.underlying31 rfl (by kernel_rfl)) rfl ?_
        exact postRec_bad hbad.out (nmU_below HGW.out HZ2.out.2)
      · rw [h10] at HI
        have hx := isB_has h10
        obtain ⟨n, rfl⟩ : ∃ n : Nat, base = (n : Int) := ⟨base.toNat, by omega⟩
        have hn : n < T.length := by omega
        have hty := HH.out.rw.ty.below HA1.out.be
        have hc1 : Z1.cell? ⟨b, 1, none⟩ = some (.slice c.ty.a c.ty.n c.ty.c) := (HH.out.bx.below HA1.out.be).cell 1
        obtain ⟨g1, off, hga, hgl, hcm⟩ := hty.elem (fun _ => rfl) n hn
        rw [hga, hty.len] at hc1
        have c6 : Z1.cell? ⟨g1, off + n * 7 + 6, none⟩ = some (.int .i64 T[n].lv) := hcm 6 _ rfl
        have c5 : Z1.cell? ⟨g1, off + n * 7 + 5, none⟩ = some (.int .i64 T[n].sz) := hcm 5 _ rfl
        have hg1 : g1 < w.heap.size := by
          have := HH.out.ty
          obtain ⟨g2, o2, e2, l2, _⟩ := HH.out.rw.ty.elem (fun _ => rfl) n hn
          rw [hga] at e2
          injection e2 with e2
          injection e2 with e2
          omega
        have j0 : (0 : Int) ≤ (n : Int) := by omega
        have j1 : (n : Int) < (T.length : Int) := by omega
        have htd := tyD_at hn
        have hlv := HH.out.fnd.inv.lvD (n : Int)
        rw [htd] at hlv
        have hbL : begL T (n : Int) = T[n].lv + 1 := by unfold begL; rw [if_neg h0, htd]
        have hbS : begS T (n : Int) = T[n].sz := by unfold begS; rw [if_neg h0, htd]
        have hwr : wrap64 (T[n].lv + 1) = T[n].lv + 1 := by rw [IntWalk.wrap64_in] <;> omega
        have hv : ((decide ((n : Int) = 0) || (isB T (n : Int) 10 && !decide ((tyD T (n : Int)).lv = 3)))) = !decide (T[n].lv = 3) := by rw [decide_eq_false h0, Bool.false_or, h10, Bool.true_and, htd]
        have hbadv : T[n].lv = 3 → recOk T (alL T) (n : Int) fs = false := fun e => by unfold recOk; rw [hv, decide_eq_true e]; rfl
        have HBV := hid_of hbadv
        have HHV := hid_of hv
        have HBL := hid_of (And.intro hbL hbS)
        generalize T[n].lv = lv at *
        generalize T[n].sz = sz at *
        clear hx h0 h10 hty hgl hcm htd hbL hbS hv hbadv
        cases h3 : decide (lv = 3)
        · have d3 : (lv == 3) = false := by simpa using h3
          have A6 := (HA1.out.tb).set (j := 6) (.int .i64 (lv + 1))
          have A5 := A6.set (j := 5) (.int .i64 sz)
          have be5 := (HA1.out.be.setCell (p := ⟨w.heap.size + 1, 6, none⟩) (by simp) (.int .i64 (lv + 1))).setCell (p := ⟨w.heap.size + 1, 5, none⟩) (by simp) (.int .i64 sz)
          have AA := hid_of (And.intro A5 be5)
          have HZB : Hid (BA ((Z1.setCell ⟨w.heap.size + 1, 6, none⟩ (.int .i64 (lv + 1))).setCell ⟨w.heap.size + 1, 5, none⟩ (.int .i64 sz)) w.heap.size 31 ZT) := hid_of ((HA1.out.rb.tq (Tq.set (P := fun k => k = w.heap.size + 1) rfl) (by omega)).tq (Tq.set (P := fun k => k = w.heap.size + 1) rfl) (by omega))
          have t6 : Z1.cell? ⟨w.heap.size + 1, 6, none⟩ = some (.int .i64 0) := HA1.out.tb.cell 6
          have f6 := HA1.out.tb.fz 6
          have t5 : (Z1.setCell ⟨w.heap.size + 1, 6, none⟩ (.int .i64 (lv + 1))).cell? ⟨w.heap.size + 1, 5, none⟩ = some (.int .i64 0) := A6.cell 5
          have f5 := A6.fz 5
          have hlt := HA1.out.tb.lt
          have c1' : (Z1.setCell ⟨w.heap.size + 1, 6, none⟩ (.int .i64 (lv + 1))).cell? ⟨b, 1, none⟩ = some (.slice (some ⟨g1, off, none⟩) T.length c.ty.c) := by rw [← hc1]; exact World.cell?_of_block (Below.heap_setCell _ _ _ _ (by simp; omega))
          have c5' : (Z1.setCell ⟨w.heap.size + 1, 6, none⟩ (.int .i64 (lv + 1))).cell? ⟨g1, off + n * 7 + 5, none⟩ = some (.int .i64 sz) := by rw [← c5]; exact World.cell?_of_block (Below.heap_setCell _ _ _ _ (by simp; omega))
          have HV3 := hid_of h3
          clear h3 A6 A5 be5
          go_wp2_with (go_at_call 16; refine HI.out.mono ?_; rintro e w1 ⟨rfl, hw⟩; rw [hw]; clear hw)
          go_meet
          case rel =>
            refine ⟨by rw [HHV.out, HV3.out]; rfl, AA.out.2, HZB.out, ?_⟩
            rw [HBL.out.1, HBL.out.2]
            exact AA.out.1
        · have d3 : (lv == 3) = true := by simpa using h3
          have hbad : Hid (recOk T (alL T) (n : Int) fs = false) := hid_of (HBV.out (by simpa using h3))
          clear h3
          go_wp2_with (go_at_call 16; refine HI.out.mono ?_; rintro e w1 ⟨rfl, hw⟩; rw [hw]; clear hw)
          refine ret_cell_tmp (p := 6) (q := 7) rfl rfl (load_blk HZ2.out.1 Tryd.underlying31 rfl (by kernel_rfl)) rfl ?_
          exact postRec_bad hbad.out (nmU_below HGW.out HZ2.out.2)
  case rest =>
    obtain ⟨hb0, HA⟩ := hcut
    have HB0 := hid_of hb0
    clear hb0 zr zr2 HZ2 HI
    obtain ⟨Z2, zr2, HZ2⟩ := HA.out.zero
    simp only [ZT] at zr2
    by_cases hlen : 200 < fs.length
    · have d1 : decide ((fs.length : Int) > 200) = true := decide_eq_true (by omega)
      have d2 : decide (200 < (fs.length : Int)) = true := decide_eq_true (by omega)
      have hbad : Hid (recOk T (alL T) base fs = false) := hid_of (by unfold recOk; rw [show decide (fs.length ≤ 200) = false from decide_eq_false (by omega), Bool.false_and, Bool.and_false])
      clear hlen
      go_wp2
      refine ret_cell_tmp (p := 6) (q := 7) rfl rfl (load_blk HZ2.out.1 Tryd.underlying31 rfl (by kernel_rfl)) rfl ?_
      exact postRec_bad hbad.out (nmU_below HGW.out HZ2.out.2)
    · have d1 : decide ((fs.length : Int) > 200) = false := decide_eq_false (by omega)
      have d2 : decide (200 < (fs.length : Int)) = false := decide_eq_false (by omega)
      have HLN : Hid (fs.length ≤ 200) := hid_of (by omega)
      have TK : Hid (Calls Tryd.prog 26 #[.pointer (some ⟨b, 0, none⟩), .int .i64 base, .slice q1 fs.length q3] wc (PostK wc g (0 + T.length) (tkB T base fs) fs)) := by
        have HW := HH.out.call HA.out.be
        have hi : base = 0 ∨ isB T base 10 = true := by
          have := HB0.out
          simp only [Bool.or_eq_true, decide_eq_true_eq, Bool.and_eq_true] at this
          exact this.imp id And.left
        refine hid_of (takeNames_any wc b c L T (alL T) M HW.rw (HW.nmr HLl.out) HH.out.fnd.inv.gd base hi ⟨q1, fs.length, q3⟩ fs (HF.out.below HW.be) HSS.out HLN.out (by rw [HW.ml]; have := HW.tlen; omega) g 0 HW.ns ?_)
        have hn := HW.na
        rw [Nat.zero_add]
        rcases hn.2 with ⟨hv, h0⟩ | ⟨g1, cap, cur, hv, h1, h2, h3⟩
        · omega
        · injection hv with e1 _ _
          rw [HW.ns] at e1
          injection e1 with e1
          injection e1 with e1 _ _
          rw [e1]
          simp [World.frozen?, h2]
      clear hlen zr2 HZ2
      cases htk : tkB T base fs
      · have hbad : Hid (recOk T (alL T) base fs = false) := hid_of (by unfold recOk; rw [htk, Bool.false_and, Bool.and_false, Bool.and_false])
        rw [htk] at TK
        clear htk
        go_wp2_with (go_at_call 26; refine TK.out.mono ?_; rintro e w5 ⟨rfl, hK5⟩; have K5 := hid_of (rc_names HGW.out HA.out hK5); clear hK5; obtain ⟨Z5, zr5, HZ5⟩ := fill_tq (ttE zeroT) K5.out.2.1 rfl (by kernel_rfl) (tt_one _); simp only [ttE, zeroT] at zr5)
        refine ret_cell_tmp (p := 6) (q := 7) rfl rfl (load_blk HZ5.out.1 Tryd.underlying31 rfl (by kernel_rfl)) rfl ?_
        exact postRec_bad hbad.out (K5.out.1.step HZ5.out.2 HGW.out (fun j e => by subst e; exact ⟨Nat.le_refl _, _, _, _, K5.out.2.1⟩))
      · rw [htk] at TK
        have HTK := hid_of htk
        clear htk
        go_wp2_with (first
          | (have hx := K5; clear hx; go_at_call 27; refine (grow_any _ fs.length HLN.out).mono ?_; rintro e w6 ⟨sl, rfl, hO6, hB6⟩; have K6 := hid_of (rc_start HGW.out K5.out hO6 hB6); clear hO6 hB6; have u4 := K6.out.1.tb.cell 4; have v4 := K6.out.1.tb.fz 4; simp [ttE] at u4)
          | (go_at_call 26; refine TK.out.mono ?_; rintro e w5 ⟨rfl, hK5⟩; have K5 := hid_of (rc_names HGW.out HA.out hK5); clear hK5; have t4 := K5.out.2.2.cell 4; simp [ttE] at t4))
        go_loopw [69] (fun p wr => ∃ i : Nat, p = .int .i64 (i : Int) ∧ i ≤ fs.length ∧ Hid (∃ sl, RcC w wr T g (fsN fs).reverse base (begL T base) (layS T (alL T) (begS T base) (fs.take i)) sl i (layF T (alL T) (begS T base) (fs.take i)) ∧ ∀ f ∈ fs.take i, thB T (alL T) f.ty = true)) (fun p wr => fs.length - (ivOf p).toNat)
        case atStart => exact ⟨0, rfl, by omega, sl, by simpa [layS, layF] using rc_put HGW.out K6.out, by simp⟩
        case round =>
          clear K6 K5 u4 v4 t4
          obtain ⟨i, rfl, hle, HR0⟩ := hrel
          by_cases hlt : i < fs.length
          · have d1 : decide ((i : Int) < (fs.length : Int)) = true := decide_eq_true (by omega)
            have j0 : (0 : Int) ≤ (i : Int) := by omega
            have j1 : (i : Int) < (fs.length : Int) := by omega
            obtain ⟨sl2, HC, hth⟩ := HR0.out
            obtain ⟨M2, HO⟩ := HC.ro HH.out
            obtain ⟨gf, of_, Z, cc, ha, l0, s0, bz, hz⟩ := box_fd HF.out HO.be i hlt
            dsimp only at ha
            subst ha
            have HCZ := hid_of (HC.call hz.out HGW.out)
            obtain ⟨M3, HOZ⟩ := HCZ.out.ro HH.out
            have HTh : Hid (Calls Tryd.prog 28 #[.pointer (some ⟨b, 0, none⟩), .int .i64 fs[i].ty] Z fun e w' => e = .returned (.bool (thB T (alL T) fs[i].ty)) ∧ w' = Z) := hid_of (isThings_any Z b c L T (alL T) HOZ.rw fs[i].ty)
            have c1z : Z.cell? ⟨wr.heap.size, 1, none⟩ = some (.int .i64 fs[i].ty) := bz.cell 1
            have HHTH := hid_of hth
            have HCW := hid_of HC
            have HBZ := hid_of bz
            have HROZ := hid_of HOZ
            have fbZ : wr.heap.size < Z.heap.size := bz.lt
            unfold ZF at s0
            clear hth HC HO HOZ bz HR0
            obtain ⟨ft, hft⟩ : ∃ ft, ft = fs[i] := ⟨_, rfl⟩
            rw [← hft] at HTh c1z HBZ
            have HFT := hid_of hft
            have HLT := hid_of hlt
            clear hft
            cases htt : thB T (alL T) ft.ty
            · rw [htt] at HTh
              have hbad : Hid (recOk T (alL T) base fs = false) := hid_of (by
                unfold recOk
                rw [show (fs.all fun f => thB T (alL T) f.ty) = false from List.all_eq_false.2 ⟨fs[i]'HLT.out, List.getElem_mem HLT.out, by rw [← HFT.out, htt]; simp⟩, Bool.and_false, Bool.and_false, Bool.and_false])
              obtain ⟨Z5, zr5, HZ5⟩ := fill_tq (ttE zeroT) HCZ.out.rb rfl (by kernel_rfl) (tt_one _)
              simp only [ttE, zeroT] at zr5
              clear htt
              go_wp2_with (go_at_call 28; refine HTh.out.mono ?_; rintro e w1 ⟨rfl, hw⟩; rw [hw]; clear hw)
              refine ret_cell_tmp (p := 6) (q := 7) rfl rfl (load_blk HZ5.out.1 Tryd.underlying31 rfl (by kernel_rfl)) rfl ?_
              exact postRec_bad hbad.out ((HCZ.out.nm.weak false).step HZ5.out.2 HGW.out (fun j e => by subst e; exact ⟨Nat.le_refl _, HCZ.out.cellsR⟩))
            · rw [htt] at HTh
              have HTT := hid_of htt
              unfold thB hasB at htt
              simp only [Bool.and_eq_true, decide_eq_true_eq] at htt
              obtain ⟨⟨x0, x1⟩, hne⟩ := htt
              obtain ⟨fnm, fty, foff⟩ := ft
              dsimp only at *
              obtain ⟨n1, rfl⟩ : ∃ n1 : Nat, fty = (n1 : Int) := ⟨fty.toNat, by omega⟩
              have hn1 : n1 < T.length := by omega
              have hnA : n1 < (alL T).length := by rw [alL_len]; exact hn1
              have INV := HH.out.fnd.inv
              have hal := alD_in INV.al (n1 : Int)
              rw [alD_at hnA] at hal hne
              have hz5 := layS_le INV (fs.take i) (begS T base) (begS_le INV base).1
              have hz6 := (begS_le INV base).2
              have htl : (fs.take i).length ≤ 200 := by rw [List.length_take]; have := HLN.out; omega
              have htz := INV.szD (n1 : Int)
              rw [tyD_at hn1] at htz
              obtain ⟨sz0, hsz0⟩ : ∃ z, z = layS T (alL T) (begS T base) (fs.take i) := ⟨_, rfl⟩
              rw [← hsz0] at hz5 HCZ HCW
              have hzb : 0 ≤ sz0 ∧ sz0 ≤ 4000000 := by omega
              have HSZ0 := hid_of hsz0
              obtain ⟨aa, haa⟩ : ∃ a, a = (alL T)[n1] := ⟨_, rfl⟩
              obtain ⟨ts, hts⟩ : ∃ a, a = T[n1].sz := ⟨_, rfl⟩
              rw [← haa] at hal hne
              rw [← hts] at htz
              have ha14 : aa = 1 ∨ aa = 4 := hal.resolve_left hne
              have RU : Hid (∀ X, Calls Tryd.prog 29 #[.int .i64 sz0, .int .i64 aa] X fun e w' => e = .returned (.int .i64 (ruI sz0 aa)) ∧ w' = X) := hid_of fun X => roundUp_any X sz0 aa (by omega) ha14
              have hru := ruI_le hzb.1 hal
              have c5z : Z.cell? ⟨w.heap.size + 1, 5, none⟩ = some (.int .i64 sz0) := HCZ.out.tb.cell 5
              have tbZ : w.heap.size + 1 < Z.heap.size := HCZ.out.tb.lt
              have bZ : b < Z.heap.size := HROZ.out.bx.lt
              have RZ := HROZ.out.rw
              have c2z : Z.cell? ⟨b, 2, none⟩ = some (.slice c.al.a c.al.n c.al.c) := RZ.bx.cell 2
              obtain ⟨g1, off, hga, g1Z, hcm⟩ := RZ.al.elem (fun _ => rfl) n1 hnA
              have caz : Z.cell? ⟨g1, off + n1 * 1 + 0, none⟩ = some (.int .i64 (alL T)[n1]) := hcm 0 _ rfl
              rw [Nat.add_zero, Nat.mul_one, ← haa] at caz
              rw [hga, RZ.al.len, alL_len] at c2z
              have c2f : Z.cell? ⟨wr.heap.size, 2, none⟩ = some (.int .i64 foff) := HBZ.out.cell 2
              have f2f := HBZ.out.fz 2
              have y0 : (0 : Int) ≤ (n1 : Int) := by omega
              have y1 : (n1 : Int) < (T.length : Int) := by omega
              -- behind region 15
              obtain ⟨o, ho⟩ : ∃ o, o = ruI sz0 aa := ⟨_, rfl⟩
              rw [← ho] at RU hru
              obtain ⟨W5, hW5⟩ : ∃ W5, W5 = (Z.setCell ⟨wr.heap.size, 2, none⟩ (.int .i64 o)).drew := ⟨_, rfl⟩
              have b5 : Below wr.heap.size wr W5 := by rw [hW5]; exact (hz.out.setCell (p := ⟨wr.heap.size, 2, none⟩) (by simp) _).drew
              have B5z := BA.set HBZ.out (j := 2) (.int .i64 o)
              have B5 : BA W5 wr.heap.size 33 (fdE ⟨fnm, (n1 : Int), o⟩) := by rw [hW5]; exact B5z
              have HLAST : Hid (Tq Z (Z.setCell ⟨wr.heap.size, 2, none⟩ (.int .i64 o)).drew (fun j => j = wr.heap.size) ∧ (Z.setCell ⟨wr.heap.size, 2, none⟩ (.int .i64 o)).drew.cell? ⟨wr.heap.size, 1, none⟩ = some (.int .i64 (n1 : Int))) := hid_of ⟨Tq.trans (P := fun j => j = wr.heap.size) (Tq.set rfl) (Tq.below (Below.refl _ _).drew), B5z.cell 1⟩
              have hi200 : i ≤ 200 := by have := HLN.out; have := HLT.out; omega
              have tbN : ¬ (w.heap.size + 1 = wr.heap.size) := by have := HCW.out.tb.lt; omega
              obtain ⟨M9, HO9⟩ := HCW.out.ro HH.out
              have bN : ¬ (b = wr.heap.size) := by have := HO9.bx.lt; omega
              have g1N : ¬ (g1 = wr.heap.size) := by
                obtain ⟨g9, o9, e9, l9, _⟩ := HO9.rw.al.elem (fun _ => rfl) n1 hnA
                rw [hga] at e9
                injection e9 with e9
                injection e9 with e9
                omega
              have C5 := HCW.out.call b5 HGW.out
              have hq5 : ∀ q, (Value.slice sl2.a sl2.n sl2.c).ownBlock = some q → q < wr.heap.size := fun q hq => (HCW.out.ow.lt q hq).2
              have l5 := ldT_run B5 Tryd.underlying33 rfl (by kernel_rfl)
              obtain ⟨i0, hi0, hzz0, hzz1, hzz2⟩ := infoF3
              obtain ⟨sl3, Y, hrun, cY, fY, cX, cA, HNX⟩ := app_box (ob := w.heap.size + 1) (j := 4) C5.tb (by omega) rfl Tryd.underlying29 hi0 hzz0 hzz1 hzz2 rfl (by omega) (fdE ⟨fnm, (n1 : Int), o⟩) rfl (by intro u hu; simp [fdE] at hu; rcases hu with rfl | rfl | rfl <;> rfl) C5.ow (by have := C5.tb.lt; omega) (by omega) (by omega)
              obtain ⟨W6, hW6⟩ : ∃ W6, W6 = Y.setCell ⟨w.heap.size + 1, 4, none⟩ (.slice sl3.a sl3.n sl3.c) := ⟨_, rfl⟩
              rw [← hW6] at HNX
              have B6 : BA W6 wr.heap.size 33 (fdE ⟨fnm, (n1 : Int), o⟩) := B5.tq HNX.out.2.2 (by
                rintro (e | e)
                · have := HCW.out.tb.lt; omega
                · have := hq5 _ e; omega)
              have C6 := C5.app (xs' := layF T (alL T) (begS T base) (fs.take i) ++ [⟨fnm, (n1 : Int), o⟩]) HGW.out HNX.out.1 (by rw [flat_snoc]; exact HNX.out.2.1) HNX.out.2.2
              obtain ⟨M6, HO6⟩ := C6.ro HH.out
              have R6 := HO6.rw
              have v1 : W6.cell? ⟨wr.heap.size, 1, none⟩ = some (.int .i64 (n1 : Int)) := B6.cell 1
              have v2 : W6.cell? ⟨wr.heap.size, 2, none⟩ = some (.int .i64 o) := B6.cell 2
              have v3 : W6.cell? ⟨b, 1, none⟩ = some (.slice c.ty.a c.ty.n c.ty.c) := R6.bx.cell 1
              obtain ⟨g2, off2, hga2, g2Z, hcm2⟩ := R6.ty.elem (fun _ => rfl) n1 hn1
              have v4 : W6.cell? ⟨g2, off2 + n1 * 7 + 5, none⟩ = some (.int .i64 T[n1].sz) := hcm2 5 _ rfl
              rw [← hts] at v4
              rw [hga2, R6.ty.len] at v3
              have v5 : W6.cell? ⟨w.heap.size + 1, 5, none⟩ = some (.int .i64 sz0) := by
                have := C6.tb.cell 5
                exact this
              have v6 := C6.tb.fz 5
              have v7 : w.heap.size + 1 < W6.heap.size := C6.tb.lt
              have HLAST2 : Hid (Tq W6 (W6.setCell ⟨w.heap.size + 1, 5, none⟩ (.int .i64 (o + ts))).drew (fun j => j = w.heap.size + 1)) := hid_of (Tq.trans (P := fun j => j = w.heap.size + 1) (Tq.set rfl) (Tq.below (Below.refl _ _).drew))
              have fb6 : wr.heap.size < W6.heap.size := B6.lt
              have fbN : ¬ (wr.heap.size = w.heap.size + 1) := by have := HCW.out.tb.lt; omega
              have b6 : b < W6.heap.size := R6.bx.lt
              have bN6 : ¬ (b = w.heap.size + 1) := by omega
              have g2N : ¬ (g2 = w.heap.size + 1) := by
                obtain ⟨g9, o9, e9, l9, _⟩ := HH.out.rw.ty.elem (fun _ => rfl) n1 hn1
                rw [hga2] at e9
                injection e9 with e9
                injection e9 with e9
                omega
              have HME : Hid (fs.length - ((i : Int) + 1).toNat < fs.length - ((i : Int)).toNat) := hid_of (by have := HLT.out; omega)
              have hwo : wrap64 (o + ts) = o + ts := by rw [IntWalk.wrap64_in] <;> omega
              have hwo2 : IntKind.i64.wrap (o + ts) = o + ts := by rw [IntWalk.i64_left, IntWalk.wrap64_in] <;> omega
              have hwi : wrap64 ((i : Int) + 1) = (i : Int) + 1 := by rw [IntWalk.wrap64_in] <;> omega
              have C7 := hid_of ((C6.size HGW.out (o + ts)).call (Below.refl _ _).drew HGW.out)
              have HAA := hid_of (And.intro haa hts)
              have HOO := hid_of ho
              simp only [fdE] at hrun l5
              clear B5z HO9 HNX B6 C6 HO6 R6 hcm2 B5 C5 HCZ HROZ RZ hcm hz5 hz6 htl haa hts ho hal hne ha14 hga hga2 hi0 hzz0 hzz1 hzz2 b5 hq5 hsz0 INV htz hzb hru
              go_wp2_with (go_at_call 28; refine HTh.out.mono ?_; rintro e w1 ⟨rfl, hw⟩; rw [hw]; clear hw)
              refine wp_region_held_drew (S := (fun X => Tq Z X (fun j => j = wr.heap.size) ∧ X.cell? ⟨wr.heap.size, 1, none⟩ = some (.int .i64 (n1 : Int)))) (by kernel_rfl) ⟨Tq.below (Below.refl _ _).drew, c1z⟩ (fun hHeld => ?_)
              refine wpAnyH_take (i := 0) (v := ?_) rfl (by kernel_rfl) (by kernel_rfl) (by kernel_rfl) (fun _ _ _ h => h) (Or.inl ⟨by kernel_rfl, ?y0a⟩) hHeld ?r0a
              case y0a => (intro wq hSw; go_simp; try rfl)
              simp only [Act.put, List.setIfInBounds_toArray, List.set_cons_zero, List.set_cons_succ]
              refine wpAnyH_take (i := 1) (v := ?_) rfl (by kernel_rfl) (by kernel_rfl) (by kernel_rfl) (fun _ _ _ h => h) (Or.inl ⟨by kernel_rfl, ?y1a⟩) hHeld ?r1a
              case y1a => (intro wq hSw; have q1 := (World.cell?_of_block (a := ⟨w.heap.size + 1, 5, none⟩) (hSw.1.blk _ tbZ tbN)).trans c5z; go_simp; try rfl)
              simp only [Act.put, List.setIfInBounds_toArray, List.set_cons_zero, List.set_cons_succ]
              refine wpAnyH_take (i := 2) (v := ?_) rfl (by kernel_rfl) (by kernel_rfl) (by kernel_rfl) (fun _ _ _ h => h) (Or.inl ⟨by kernel_rfl, ?y2a⟩) hHeld ?r2a
              case y2a => (intro wq hSw; go_simp; try rfl)
              simp only [Act.put, List.setIfInBounds_toArray, List.set_cons_zero, List.set_cons_succ]
              refine wpAnyH_take (i := 3) (v := ?_) rfl (by kernel_rfl) (by kernel_rfl) (by kernel_rfl) (fun _ _ _ h => h) (Or.inl ⟨by kernel_rfl, ?y3a⟩) hHeld ?r3a
              case y3a => (intro wq hSw; go_simp; try rfl)
              simp only [Act.put, List.setIfInBounds_toArray, List.set_cons_zero, List.set_cons_succ]
              refine wpAnyH_take (i := 4) (v := ?_) rfl (by kernel_rfl) (by kernel_rfl) (by kernel_rfl) (fun _ _ _ h => h) (Or.inl ⟨by kernel_rfl, ?y4a⟩) hHeld ?r4a
              case y4a => (intro wq hSw; go_simp; try rfl)
              simp only [Act.put, List.setIfInBounds_toArray, List.set_cons_zero, List.set_cons_succ]
              refine wpAnyH_take (i := 5) (v := ?_) rfl (by kernel_rfl) (by kernel_rfl) (by kernel_rfl) (fun _ _ _ h => h) (Or.inl ⟨by kernel_rfl, ?y5a⟩) hHeld ?r5a
              case y5a => (intro wq hSw; have q2 := (World.cell?_of_block (a := ⟨b, 2, none⟩) (hSw.1.blk _ bZ bN)).trans c2z; go_simp; try rfl)
              simp only [Act.put, List.setIfInBounds_toArray, List.set_cons_zero, List.set_cons_succ]
              refine wpAnyH_take (i := 6) (v := ?_) rfl (by kernel_rfl) (by kernel_rfl) (by kernel_rfl) (fun _ _ _ h => h) (Or.inl ⟨by kernel_rfl, ?y6a⟩) hHeld ?r6a
              case y6a => (intro wq hSw; go_simp; try rfl)
              simp only [Act.put, List.setIfInBounds_toArray, List.set_cons_zero, List.set_cons_succ]
              refine wpAnyH_take (i := 7) (v := ?_) rfl (by kernel_rfl) (by kernel_rfl) (by kernel_rfl) (fun _ _ _ h => h) (Or.inl ⟨by kernel_rfl, ?y7a⟩) hHeld ?r7a
              case y7a => (intro wq hSw; have q3 := hSw.2; go_simp; try rfl)
              simp only [Act.put, List.setIfInBounds_toArray, List.set_cons_zero, List.set_cons_succ]
              refine wpAnyH_take (i := 8) (v := ?_) rfl (by kernel_rfl) (by kernel_rfl) (by kernel_rfl) (fun _ _ _ h => h) (Or.inl ⟨by kernel_rfl, ?y8a⟩) hHeld ?r8a
              case y8a => (intro wq hSw; go_simp; try rfl)
              simp only [Act.put, List.setIfInBounds_toArray, List.set_cons_zero, List.set_cons_succ]
              refine wpAnyH_take (i := 9) (v := ?_) rfl (by kernel_rfl) (by kernel_rfl) (by kernel_rfl) (fun _ _ _ h => h) (Or.inl ⟨by kernel_rfl, ?y9a⟩) hHeld ?r9a
              case y9a => (intro wq hSw; have q4 := (World.cell?_of_block (a := ⟨g1, off + n1, none⟩) (hSw.1.blk _ g1Z g1N)).trans caz; go_simp; try rfl)
              simp only [Act.put, List.setIfInBounds_toArray, List.set_cons_zero, List.set_cons_succ]
              refine wpAnyH_ready (rs := [10]) (by kernel_rfl) (by simp) ?_
              refine AllReadyH.cons rfl (fun K hK => ?_) AllReadyH.nil
              go_simp
              go_wp2_with (go_at_call 29; refine (RU.out _).mono ?_; rintro e w1 ⟨rfl, hw⟩; rw [hw]; clear hw)
              refine hK.out _ _ hHeld (fun _ => ?_)
              clear hK K
              refine wpAnyH_take (i := 11) (v := ?_) rfl (by kernel_rfl) (by kernel_rfl) (by kernel_rfl) (fun _ _ _ h => h) (Or.inl ⟨by kernel_rfl, ?y11a⟩) hHeld ?r11a
              case y11a => (intro wq hSw; go_simp; try rfl)
              simp only [Act.put, List.setIfInBounds_toArray, List.set_cons_zero, List.set_cons_succ]
              refine wpAnyH_ready (rs := [12]) (by kernel_rfl) (by simp) ?_
              refine AllReadyH.cons rfl (fun K hK => ?_) AllReadyH.nil
              go_simp
              refine hK.out _ _ HLAST.out (fun _ => ?_)
              clear hK K
              refine wpAnyH_done (by kernel_rfl) ?_ _
              rw [← hW5]
              clear hW5
              go_wp2_with fail
              rw [← hW6]
              clear hW6 c1z c5z c2z caz c2f f2f cY fY cX cA hrun l5 l0 s0
              refine wp_region_held_drew (S := (fun X => Tq W6 X (fun j => j = w.heap.size + 1))) (by kernel_rfl) (Tq.below (Below.refl _ _).drew) (fun hHeld => ?_)
              refine wpAnyH_take (i := 0) (v := ?_) rfl (by kernel_rfl) (by kernel_rfl) (by kernel_rfl) (fun _ _ _ h => h) (Or.inl ⟨by kernel_rfl, ?y0b⟩) hHeld ?r0b
              case y0b => (intro wq hSw; go_simp; try rfl)
              simp only [Act.put, List.setIfInBounds_toArray, List.set_cons_zero, List.set_cons_succ]
              refine wpAnyH_take (i := 1) (v := ?_) rfl (by kernel_rfl) (by kernel_rfl) (by kernel_rfl) (fun _ _ _ h => h) (Or.inl ⟨by kernel_rfl, ?y1b⟩) hHeld ?r1b
              case y1b => (intro wq hSw; have q1 := (World.cell?_of_block (a := ⟨wr.heap.size, 2, none⟩) (hSw.blk _ fb6 fbN)).trans v2; go_simp; try rfl)
              simp only [Act.put, List.setIfInBounds_toArray, List.set_cons_zero, List.set_cons_succ]
              refine wpAnyH_take (i := 2) (v := ?_) rfl (by kernel_rfl) (by kernel_rfl) (by kernel_rfl) (fun _ _ _ h => h) (Or.inl ⟨by kernel_rfl, ?y2b⟩) hHeld ?r2b
              case y2b => (intro wq hSw; go_simp; try rfl)
              simp only [Act.put, List.setIfInBounds_toArray, List.set_cons_zero, List.set_cons_succ]
              refine wpAnyH_take (i := 3) (v := ?_) rfl (by kernel_rfl) (by kernel_rfl) (by kernel_rfl) (fun _ _ _ h => h) (Or.inl ⟨by kernel_rfl, ?y3b⟩) hHeld ?r3b
              case y3b => (intro wq hSw; go_simp; try rfl)
              simp only [Act.put, List.setIfInBounds_toArray, List.set_cons_zero, List.set_cons_succ]
              refine wpAnyH_take (i := 4) (v := ?_) rfl (by kernel_rfl) (by kernel_rfl) (by kernel_rfl) (fun _ _ _ h => h) (Or.inl ⟨by kernel_rfl, ?y4b⟩) hHeld ?r4b
              case y4b => (intro wq hSw; go_simp; try rfl)
              simp only [Act.put, List.setIfInBounds_toArray, List.set_cons_zero, List.set_cons_succ]
              refine wpAnyH_take (i := 5) (v := ?_) rfl (by kernel_rfl) (by kernel_rfl) (by kernel_rfl) (fun _ _ _ h => h) (Or.inl ⟨by kernel_rfl, ?y5b⟩) hHeld ?r5b
              case y5b => (intro wq hSw; have q2 := (World.cell?_of_block (a := ⟨b, 1, none⟩) (hSw.blk _ b6 bN6)).trans v3; go_simp; try rfl)
              simp only [Act.put, List.setIfInBounds_toArray, List.set_cons_zero, List.set_cons_succ]
              refine wpAnyH_take (i := 6) (v := ?_) rfl (by kernel_rfl) (by kernel_rfl) (by kernel_rfl) (fun _ _ _ h => h) (Or.inl ⟨by kernel_rfl, ?y6b⟩) hHeld ?r6b
              case y6b => (intro wq hSw; go_simp; try rfl)
              simp only [Act.put, List.setIfInBounds_toArray, List.set_cons_zero, List.set_cons_succ]
              refine wpAnyH_take (i := 7) (v := ?_) rfl (by kernel_rfl) (by kernel_rfl) (by kernel_rfl) (fun _ _ _ h => h) (Or.inl ⟨by kernel_rfl, ?y7b⟩) hHeld ?r7b
              case y7b => (intro wq hSw; have q3 := (World.cell?_of_block (a := ⟨wr.heap.size, 1, none⟩) (hSw.blk _ fb6 fbN)).trans v1; go_simp; try rfl)
              simp only [Act.put, List.setIfInBounds_toArray, List.set_cons_zero, List.set_cons_succ]
              refine wpAnyH_take (i := 8) (v := ?_) rfl (by kernel_rfl) (by kernel_rfl) (by kernel_rfl) (fun _ _ _ h => h) (Or.inl ⟨by kernel_rfl, ?y8b⟩) hHeld ?r8b
              case y8b => (intro wq hSw; go_simp; try rfl)
              simp only [Act.put, List.setIfInBounds_toArray, List.set_cons_zero, List.set_cons_succ]
              refine wpAnyH_take (i := 9) (v := ?_) rfl (by kernel_rfl) (by kernel_rfl) (by kernel_rfl) (fun _ _ _ h => h) (Or.inl ⟨by kernel_rfl, ?y9b⟩) hHeld ?r9b
              case y9b => (intro wq hSw; go_simp; try rfl)
              simp only [Act.put, List.setIfInBounds_toArray, List.set_cons_zero, List.set_cons_succ]
              refine wpAnyH_take (i := 10) (v := ?_) rfl (by kernel_rfl) (by kernel_rfl) (by kernel_rfl) (fun _ _ _ h => h) (Or.inl ⟨by kernel_rfl, ?y10b⟩) hHeld ?r10b
              case y10b => (intro wq hSw; have q4 := (World.cell?_of_block (a := ⟨g2, off2 + n1 * 7 + 5, none⟩) (hSw.blk _ g2Z g2N)).trans v4; go_simp; try rfl)
              simp only [Act.put, List.setIfInBounds_toArray, List.set_cons_zero, List.set_cons_succ]
              refine wpAnyH_take (i := 11) (v := ?_) rfl (by kernel_rfl) (by kernel_rfl) (by kernel_rfl) (fun _ _ _ h => h) (Or.inl ⟨by kernel_rfl, ?y11b⟩) hHeld ?r11b
              case y11b => (intro wq hSw; go_simp; try rfl)
              simp only [Act.put, List.setIfInBounds_toArray, List.set_cons_zero, List.set_cons_succ]
              refine wpAnyH_take (i := 12) (v := ?_) rfl (by kernel_rfl) (by kernel_rfl) (by kernel_rfl) (fun _ _ _ h => h) (Or.inl ⟨by kernel_rfl, ?y12b⟩) hHeld ?r12b
              case y12b => (intro wq hSw; go_simp; try rfl)
              simp only [Act.put, List.setIfInBounds_toArray, List.set_cons_zero, List.set_cons_succ]
              refine wpAnyH_ready (rs := [13]) (by kernel_rfl) (by simp) ?_
              refine AllReadyH.cons rfl (fun K hK => ?_) AllReadyH.nil
              go_simp
              refine hK.out _ _ HLAST2.out (fun _ => ?_)
              clear hK K
              refine wpAnyH_done (by kernel_rfl) ?_ _
              go_wp2_with fail
              go_roundw
              case rel =>
                refine ⟨i + 1, by simp [hwi], Nat.succ_le_of_lt HLT.out, sl3, ?_, ?_⟩
                · have e1 := fs_take HLT.out
                  rw [← HFT.out] at e1
                  rw [e1, layS_snoc, layF_snoc, ← HSZ0.out]
                  dsimp only
                  rw [alD_at (by rw [alL_len]; exact hn1), tyD_at hn1, ← HAA.out.1, ← HAA.out.2, ← HOO.out]
                  exact C7.out
                · intro f hf2
                  have e1 := fs_take HLT.out
                  rw [← HFT.out] at e1
                  rw [e1, List.mem_append] at hf2
                  rcases hf2 with hf2 | hf2
                  · exact HHTH.out f hf2
                  · rw [List.mem_singleton] at hf2
                    rw [hf2]
                    exact HTT.out
              case measure => exact vmeas HME.out hwi
          · have d1 : decide ((i : Int) < (fs.length : Int)) = false := decide_eq_false (by omega)
            obtain ⟨sl2, HC, hth⟩ := HR0.out
            rw [List.take_of_length_le (by omega)] at HC hth
            obtain rfl : i = fs.length := by omega
            have hok : recOk T (alL T) base fs = true := by
              unfold recOk
              rw [HB0.out, HTK.out, show decide (fs.length ≤ 200) = true from decide_eq_true HLN.out, show (fs.all fun f => thB T (alL T) f.ty) = true from List.all_eq_true.2 hth]
              rfl
            have INV := HH.out.fnd.inv
            have hz5 := layS_le INV fs (begS T base) (begS_le INV base).1
            have hz6 := (begS_le INV base).2
            have htl := HLN.out
            obtain ⟨sz0, hsz0⟩ : ∃ z, z = layS T (alL T) (begS T base) fs := ⟨_, rfl⟩
            rw [← hsz0] at hz5 HC
            have hzb : 0 ≤ sz0 ∧ sz0 ≤ 4000000 := by omega
            have RU : Hid (Calls Tryd.prog 29 #[.int .i64 sz0, .int .i64 4] wr fun e w' => e = .returned (.int .i64 (ruI sz0 4)) ∧ w' = wr) := hid_of (roundUp_any wr sz0 4 (by omega) (.inr rfl))
            obtain ⟨o, ho⟩ : ∃ o, o = ruI sz0 4 := ⟨_, rfl⟩
            rw [← ho] at RU
            have c5z : wr.cell? ⟨w.heap.size + 1, 5, none⟩ = some (.int .i64 sz0) := HC.tb.cell 5
            have f5z := HC.tb.fz 5
            have C7 := HC.size HGW.out o
            obtain ⟨W7, hW7⟩ : ∃ W7, W7 = wr.setCell ⟨w.heap.size + 1, 5, none⟩ (.int .i64 o) := ⟨_, rfl⟩
            rw [← hW7] at C7
            have hrt : recT T (alL T) base fs sl2 = ⟨10, 0, 0, base, sl2, o, begL T base, layF T (alL T) (begS T base) fs⟩ := by unfold recT; rw [← hsz0, ← ho]
            have HD : Hid (Calls Tryd.prog 30 #[.agg (ttE (recT T (alL T) base fs sl2))] W7 (PostT W7 (heldP (recT T (alL T) base fs sl2)))) := hid_of (held_any W7 _)
            have hrp : recP T (alL T) base fs sl2 = heldP (recT T (alL T) base fs sl2) := by unfold recP; rw [hok]; rfl
            have hhx : (heldP (recT T (alL T) base fs sl2)).1 = recT T (alL T) base fs sl2 ∨ (heldP (recT T (alL T) base fs sl2)).1 = zeroT := by
              unfold heldP
              split
              · exact .inr rfl
              · exact .inl rfl
            obtain ⟨hp, hhp⟩ : ∃ hp, hp = heldP (recT T (alL T) base fs sl2) := ⟨_, rfl⟩
            rw [← hhp] at HD hrp hhx
            rw [hrt] at HD hhx
            have l7 := ldT_run C7.tb Tryd.underlying31 rfl (by kernel_rfl)
            simp only [ttE] at l7
            unfold ttE at HD
            dsimp only at HD
            have C77 := hid_of C7
            have HRP := hid_of hrp
            have HHX := hid_of hhx
            have u5 : w.heap.size + 1 < wr.heap.size := HC.tb.lt
            clear hrp hhx hhp hrt C7 hz5 hz6 hzb hok HC hth INV HR0 hsz0 ho hle
            go_wp2_with (first
              | (have hx := H8; clear hx; fail)
              | (go_at_call 30; refine HD.out.mono ?_; rintro e w8 ⟨rfl, hB8⟩; have H8 := hid_of (C77.out.call hB8 HGW.out); clear hB8; obtain ⟨Z9, zr9, HZ9⟩ := fill_tq (ttE hp.1) H8.out.rb rfl (by kernel_rfl) (tt_one _))
              | (go_at_call 29; refine RU.out.mono ?_; rintro e w7 ⟨rfl, hw⟩; rw [hw]; clear hw; rw [hW7] at l7 HD; try rw [hW7] at C77))
            refine ret_cell_tmp (p := 6) (q := 7) rfl rfl (load_blk HZ9.out.1 Tryd.underlying31 rfl (by kernel_rfl)) rfl ?_
            refine ⟨sl2, by rw [HRP.out]; rfl, ?_, ?_⟩
            · exact (H8.out.nm.weak _).step HZ9.out.2 HGW.out (fun j e => by subst e; exact ⟨Nat.le_refl _, H8.out.cellsR⟩)
            · rw [HRP.out]
              rcases HHX.out with e | e
              · rw [e]
                dsimp only
                have ho := H8.out.ow
                rw [layF_len]
                exact own_base (HZ9.out.2.own ho (fun q hq e => by have := own_lo ho q hq; omega)) (by have := HH.out.be.size; omega)
              · rw [e]
                exact own_nilH _ _ _ _
end Go.Proofs.YtgkfnfilomjphaaDoor
