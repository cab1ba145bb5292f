/-
  Layer 11: a record's field of a name, its own or one of those that it extends.
-/
import Derived.Test.YtgkfnfilomjphaaDoorVix
namespace Go.Proofs.YtgkfnfilomjphaaDoor
set_option linter.unusedVariables false
set_option linter.unusedSimpArgs false
open Go.ChangeShapes Go.WideShapes Go.ChangeAt Go.RowKit Go.Shelf
attribute [local go_sem] Oper.semAt_some
attribute [local go_sem ↓] ldY_seal stY_seal ldF_seal stF_seal

theorem run_store_func {P : Program} {w : World} {a : Addr} {m : Mode} (f : Fn) (r c : Array Value) : (store a (.func f r c) m).run P w = stored P w a (.func f r c) m := run_store P w a _ m rfl
attribute [local go_sem] run_store_func
theorem al4' (w : World) (a b c d : Obj) : ((((w.alloc a).alloc b).alloc c).alloc d).heap[w.heap.size]? = some a ∧ ((((w.alloc a).alloc b).alloc c).alloc d).heap[w.heap.size + 1]? = some b ∧ ((((w.alloc a).alloc b).alloc c).alloc d).heap[w.heap.size + 1 + 1]? = some c ∧ ((((w.alloc a).alloc b).alloc c).alloc d).heap[w.heap.size + 1 + 1 + 1]? = some d := al4 w a b c d
/-- The field of a name. -/
def fldP (L : List Tt) (t : Int) (nm : ByteArray) : Option Fd := (upA L t).findSome? fun x => (tyD L x).fs.find? (nmB nm)
theorem tyD_fs {T L : List Tt} (h : T.map ct = L.map ct) (i : Int) : (tyD T i).fs = (tyD L i).fs := by
  have h1 := tyD_ct T i
  rw [h, tyD_ct] at h1
  have h2 : (ct (tyD L i)).fs = (ct (tyD T i)).fs := by rw [h1]
  exact h2.symm
theorem fldP_eq {T L : List Tt} (h : T.map ct = L.map ct) (t : Int) (nm : ByteArray) : fldP T t nm = fldP L t nm := by
  unfold fldP
  rw [upA_eq h]
  congr 1
  funext x
  rw [tyD_fs h]
/-- What stands between two rounds. -/
structure HF (w w1 W : World) (n b : Nat) (nm : ByteArray) (T : List Tt) (pre : List (Rcd T)) : Prop where
  pb : BA W w.heap.size 9 #[.string nm]
  rb : BA W (w.heap.size + 1) 33 ZF
  ob : BA W (w.heap.size + 1 + 1) 4 #[.bool false]
  wb : BA W w1.heap.size 43 #[.pointer (some ⟨b, 0, none⟩)]
  fb : BA W (w1.heap.size + 1) 50 #[.func (.func 17) #[] #[.pointer (some ⟨w.heap.size, 0, none⟩)]]
  nd : ∀ x ∈ pre, (tyD T x.1).fs.find? (nmB nm) = none
  be : Below w1.heap.size w1 W
  big : n ≤ W.heap.size
theorem HF.grown {w w1 W W' : World} {n b : Nat} {nm : ByteArray} {T : List Tt} {pre : List (Rcd T)} {row : Option Nat} (hn : w.heap.size + 3 ≤ w1.heap.size ∧ w1.heap.size + 2 ≤ n) (h : HF w w1 W n b nm T pre) (hg : W.grownBy W' row) (hr : ∀ r, row = some r → n ≤ r) : HF w w1 W' n b nm T pre := by
  have ne : ∀ k, k < n → ¬ (some k = row) := fun k hk e => by have := hr k e.symm; omega
  exact ⟨(hg.block _ h.pb.lt (ne _ (by omega))).trans h.pb, (hg.block _ h.rb.lt (ne _ (by omega))).trans h.rb, (hg.block _ h.ob.lt (ne _ (by omega))).trans h.ob, (hg.block _ h.wb.lt (ne _ (by omega))).trans h.wb, (hg.block _ h.fb.lt (ne _ (by omega))).trans h.fb, h.nd, ⟨hg.os.trans h.be.os, hg.tape.trans h.be.tape, hg.output.trans h.be.output, Nat.le_trans h.be.size hg.size, fun k hk => (hg.block k (Nat.lt_of_lt_of_le hk h.be.size) (ne k (by omega))).trans (h.be.block k hk)⟩, Nat.le_trans h.big hg.size⟩
theorem HF.call {w w1 W W' : World} {n b : Nat} {nm : ByteArray} {T : List Tt} {pre : List (Rcd T)} (hn : w.heap.size + 3 ≤ w1.heap.size ∧ w1.heap.size + 2 ≤ n) (h : HF w w1 W n b nm T pre) (hb : Below W.heap.size W W') : HF w w1 W' n b nm T pre := h.grown (row := none) hn ⟨hb.os, hb.tape, hb.output, hb.size, fun k hk _ => hb.block k hk⟩ (fun r e => by cases e)
theorem find_pre {T : List Tt} {nm : ByteArray} {t : Int} {pre : List Int} {x : Int} {f : Fd} (hp : pre ++ [x] <+: upA T t) (h1 : ∀ y ∈ pre, (tyD T y).fs.find? (nmB nm) = none) (h2 : (tyD T x).fs.find? (nmB nm) = some f) : fldP T t nm = some f := by
  obtain ⟨r, hr⟩ := hp
  unfold fldP
  rw [← hr, List.append_assoc, List.findSome?_append, List.findSome?_eq_none_iff.2 h1]
  simp [h2]
/-- The field was found in the last of these records. -/
def FndF (T : List Tt) (nm : ByteArray) (pre : List (Rcd T)) (P : Fd → Prop) : Prop := ∃ (p0 : List (Rcd T)) (x : Rcd T) (f2 : Fd), pre = p0 ++ [x] ∧ (∀ y ∈ p0, (tyD T y.1).fs.find? (nmB nm) = none) ∧ (tyD T x.1).fs.find? (nmB nm) = some f2 ∧ P f2
theorem FndF.mono {T : List Tt} {nm : ByteArray} {pre : List (Rcd T)} {P Q : Fd → Prop} (h : FndF T nm pre P) (hp : ∀ f, P f → Q f) : FndF T nm pre Q := by
  obtain ⟨p0, x, f2, h1, h2, h3, h4⟩ := h
  exact ⟨p0, x, f2, h1, h2, h3, hp _ h4⟩
set_option maxRecDepth 100000 in
set_option maxHeartbeats 16000000 in
theorem field_in (n : Nat) (hn : 4 ≤ n) (w : World) (hv : Vs w) (s : Sl) (L : List Tt) (h : LsR w s L) (hrd : readB L = true) (t : Int) (ht : isB L t 10 = true) (nm : ByteArray) (f : Fd) (hf : fldP L t nm = some f) :
    CallsIn Fence.wide n Tryd.prog 7 #[.slice s.a s.n s.c, .int .i64 t, .string nm] w fun e W' => e = .returned (.tuple #[.agg (fdE f), .bool true]) ∧ Below w.heap.size w W' := by
  have h1 : 1 ≤ n := by omega
  obtain ⟨V0, hV0⟩ : ∃ V0, V0 = (((w.alloc (.cells #[.string nm] 9)).alloc (.cells ZF 33)).alloc (.cells #[.bool false] 4)) := ⟨_, rfl⟩
  have hbV : Below w.heap.size w V0 := by rw [hV0]; go_grown
  have sV : V0.heap.size = w.heap.size + 3 := by rw [hV0]; simp
  have P0 : BA V0 w.heap.size 9 #[.string nm] := by rw [hV0]; exact ((BA.new w _ _).below ((Below.refl _ _).alloc (Nat.le_refl _) _)).below ((Below.refl _ _).alloc (Nat.le_refl _) _)
  have R0 : BA V0 (w.heap.size + 1) 33 ZF := by rw [hV0, show w.heap.size + 1 = (w.alloc (.cells #[.string nm] 9)).heap.size by simp]; exact (BA.new _ _ _).below ((Below.refl _ _).alloc (Nat.le_refl _) _)
  have O0 : BA V0 (w.heap.size + 1 + 1) 4 #[.bool false] := by rw [hV0, show w.heap.size + 1 + 1 = ((w.alloc (.cells #[.string nm] 9)).alloc (.cells ZF 33)).heap.size by simp]; exact BA.new _ _ _
  have RC : Hid (CallsIn Fence.wide (n - 1) Tryd.prog 15 #[.slice s.a s.n s.c] V0 (PostRd V0 L s)) := hid_of (callsIn_wide.2 (read_ls V0 (hv.call hbV) s L (h.call hbV)))
  unfold PostRd at RC
  rw [hrd] at RC
  have H0 := hid_of (And.intro hbV (And.intro sV (And.intro P0 (And.intro R0 O0))))
  have HT := hid_of ht
  have HFF := hid_of hf
  have hu := hV0
  clear hv h hrd ht hf hbV sV P0 R0 O0 hV0
  unfold ZF at hu
  refine callsIn_of_wp_marks Tryd.func7 rfl trivial ?_ rfl
  simp only [Tryd.ntmps7, List.size_toArray, List.length_cons, List.length_nil, Nat.reduceAdd, Nat.reduceSub, Array.replicate_succ, Array.replicate_zero, List.push_toArray, List.append_toArray, List.nil_append, List.cons_append]
  gi_wp2_with (first
    | (have hx := HO; clear hx; refine ⟨trivial, ?_⟩; gi_at_call 18; refine (upFrom_in (n - 1) _ _ _).mono ?_; rintro e w' ⟨rfl, rfl⟩)
    | (have hx := HO; clear hx; refine ⟨trivial, ?_⟩; gi_at_call 16; refine (callsIn_wide.2 (is_any _ b c L T (alL T) (HO.out.1.rw.below ((Below.refl _ _).alloc (Nat.le_refl _) _)) _ _)).mono ?_; rintro e w2 ⟨rfl, hw2⟩; rw [hw2, HO.out.2.1, HT.out]; clear hw2)
    | (refine ⟨trivial, ?_⟩; rw [← hu]; gi_at_call 15; refine RC.out.mono ?_; rintro e w1 ⟨b, c, T, M, g1, rfl, hli, hO, hT⟩; have HO := hid_of (And.intro hO (And.intro (fun i f => isB_eq (hO.fnd.all (hT rfl)).2 i f) (hO.fnd.all (hT rfl)).2)); clear hO hT hli))
  obtain ⟨W0, hW0⟩ : ∃ W0, W0 = ((((w1.alloc (.cells #[.pointer (some ⟨b, 0, none⟩)] 43)).alloc (.cells #[.func (.func 17) #[] #[.pointer (some ⟨w.heap.size, 0, none⟩)]] 50)).alloc (.cells #[.pointer (some ⟨b, 0, none⟩)] 43)).alloc (.cells #[.int .i64 t] 3)) := ⟨_, rfl⟩
  rw [← hW0]
  have k1 : Below w1.heap.size w1 W0 := by rw [hW0]; go_grown
  obtain ⟨a1, a2, a3, a4⟩ := al4' w1 (.cells #[.pointer (some ⟨b, 0, none⟩)] 43) (.cells #[.func (.func 17) #[] #[.pointer (some ⟨w.heap.size, 0, none⟩)]] 50) (.cells #[.pointer (some ⟨b, 0, none⟩)] 43) (.cells #[.int .i64 t] 3)
  rw [← hW0] at a1 a2 a3 a4
  have s0 : W0.heap.size = w1.heap.size + 4 := by rw [hW0]; simp
  obtain ⟨hbV, sV, P0, R0, O0⟩ := H0.out
  have bw1 : Below V0.heap.size V0 w1 := HO.out.1.be
  have sz1 : w.heap.size + 3 ≤ w1.heap.size := by have := bw1.size; omega
  have N0 : HF w w1 W0 W0.heap.size b nm T [] := ⟨(P0.below bw1).below k1, (R0.below bw1).below k1, (O0.below bw1).below k1, a1, a2, (by intro x hx; simp at hx), k1, Nat.le_refl _⟩
  have HN0 := hid_of N0
  have HB3 := hid_of a3
  have HB4 := hid_of a4
  have HS := hid_of s0
  have HSZ := hid_of sz1
  have HK1 := hid_of k1
  have HBV := hid_of (hbV.trans (bw1.mono hbV.size))
  have HNN : Hid (w.heap.size + 3 ≤ w1.heap.size ∧ w1.heap.size + 2 ≤ W0.heap.size) := hid_of ⟨sz1, by omega⟩
  have HFT : Hid (fldP T t nm = some f) := hid_of (by rw [fldP_eq HO.out.2.2]; exact HFF.out)
  have HTT : Hid (isB T t 10 = true) := hid_of (by rw [HO.out.2.1]; exact HT.out)
  clear hW0 N0 a1 a2 a3 a4 s0 hbV sV P0 R0 O0 bw1 sz1 RC hu
  refine wpIn_rangeFunc_ownG rfl h1 (gf := 35) (lb := #[.pointer (some ⟨w1.heap.size + 1 + 1 + 1, 0, none⟩), .pointer (some ⟨w1.heap.size + 1 + 1, 0, none⟩)]) rfl trivial (enters_of Tryd.func35 (by kernel_rfl) rfl)
    (w0 := W0) (encs := fun x : Rcd T => #[.int .i64 x.1]) (Kp := KpU w1.heap.size (w1.heap.size + 1 + 1 + 1) (w1.heap.size + 1 + 1)) (S := fun ys => ys.map (·.1) = upA T t) (Sp := fun pre => pre.map (·.1) <+: upA T t) (N := (upA T t).length)
    (fun l₀ J Jx W hW hJ hJx hY h0 => up1s_in Fence.wide (n - 1) trivial rfl (by omega) l₀ (w1.heap.size + 1 + 1 + 1) (w1.heap.size + 1 + 1) b w1 c L T (alL T) HO.out.1.rw HO.out.1.fnd.inv.gd t (.inr HTT.out) J Jx (fun s A B hs hg => hJ s A B none hs hg (fun r e => by cases e)) hY W (k1.trans (hW.mono k1.size)) (BA.below (show BA W0 (w1.heap.size + 1 + 1 + 1) 3 #[.int .i64 t] from HB4.out) hW) (BA.below (show BA W0 (w1.heap.size + 1 + 1) 43 #[.pointer (some ⟨b, 0, none⟩)] from HB3.out) hW) h0)
    KpU.t (fun W l o o' h1 h2 _ _ => KpU.b (N := W0.heap.size) (by rw [HS.out]; omega) (by rw [HS.out]; omega) (by rw [HS.out]; omega) W l o o' h1 h2) (Below.refl _ _) (fun _ => rfl)
    (fun pre W => HF w w1 W W0.heap.size b nm T pre)
    (fun cd pre W => cd = .ret ∧ FndF T nm pre (fun f2 => BA W (w.heap.size + 1) 33 (fdE f2)) ∧ BA W (w.heap.size + 1 + 1) 4 #[.bool true] ∧ Below w.heap.size w W)
    (fun s A B row hs hg hr => hs.grown HNN.out hg (fun r e => (hr r e).1))
    (fun cd s A B row hs hg hr => ⟨hs.1, hs.2.1.mono (fun f2 hB => (hg.block _ hB.lt (fun e => by have := (hr _ e.symm).1; have := HNN.out; omega)).trans hB), (hg.block _ hs.2.2.1.lt (fun e => by have := (hr _ e.symm).1; have := HNN.out; omega)).trans hs.2.2.1, ⟨hg.os.trans hs.2.2.2.os, hg.tape.trans hs.2.2.2.tape, hg.output.trans hs.2.2.2.output, Nat.le_trans hs.2.2.2.size hg.size, fun k hk => (hg.block k (Nat.lt_of_lt_of_le hk hs.2.2.2.size) (fun e => by have := (hr _ e.symm).1; have := HNN.out; omega)).trans (hs.2.2.2.block k hk)⟩⟩)
    HN0.out
    (fun x => { tmps := #[.slice s.a s.n s.c, .int .i64 t, .string nm, undef, undef, .pointer (some ⟨w.heap.size, 0, none⟩), .pointer (some ⟨w.heap.size + 1, 0, none⟩), .pointer (some ⟨w.heap.size + 1 + 1, 0, none⟩), .pointer (some ⟨w1.heap.size, 0, none⟩), .bool true, .pointer (some ⟨w1.heap.size + 1, 0, none⟩), .int .i64 x.1, undef, undef, .tuple #[.pointer (some ⟨b, 0, none⟩), .bool true], .slice s.a s.n s.c, .tuple #[.pointer (some ⟨b, 0, none⟩), .bool true], .pointer (some ⟨b, 0, none⟩), .bool true, .bool true, .bool false, .bool false, .pointer (some ⟨b, 0, none⟩), .int .i64 t, .bool true, .bool false, .bool false, undef, .func (.func 17) #[] #[.pointer (some ⟨w.heap.size, 0, none⟩)], .pointer (some ⟨b, 0, none⟩), .int .i64 t, .func (.func 35) #[] #[.pointer (some ⟨w1.heap.size + 1 + 1 + 1, 0, none⟩), .pointer (some ⟨w1.heap.size + 1 + 1, 0, none⟩)], .int .i64 x.1, undef, undef, undef, undef, undef, undef, undef, undef, undef, undef, undef, undef, undef, undef, undef, undef, undef, undef], defers := [] }) ?assign ?body ?done ?stop
  case assign =>
    intro l x W K hK
    gi_wp2
    exact hK
  case body =>
    rintro l' pre x W hI hlt
    obtain ⟨xv, hx⟩ := x
    obtain ⟨x0, x1⟩ := isB_has hx
    obtain ⟨n0, rfl⟩ : ∃ n0 : Nat, xv = (n0 : Int) := ⟨xv.toNat, by omega⟩
    have hn0 : n0 < T.length := by omega
    have OW := HO.out.1.call hI.be
    have RW := OW.rw
    obtain ⟨g, off, hga, hgl, hcm⟩ := RW.ty.elem (fun _ => rfl) n0 hn0
    have cf : W.cell? ⟨g, off + n0 * 7 + 4, none⟩ = some (.slice T[n0].sl.a T[n0].sl.n T[n0].sl.c) := hcm 4 _ rfl
    have cb : W.cell? ⟨b, 1, none⟩ = some (.slice c.ty.a c.ty.n c.ty.c) := RW.bx.cell 1
    rw [hga, RW.ty.len] at cb
    have cw : W.cell? ⟨w1.heap.size, 0, none⟩ = some (.pointer (some ⟨b, 0, none⟩)) := hI.wb.cell 0
    have cfn : W.cell? ⟨w1.heap.size + 1, 0, none⟩ = some (.func (.func 17) #[] #[.pointer (some ⟨w.heap.size, 0, none⟩)]) := hI.fb.cell 0
    have u1 : w1.heap.size < W.heap.size := hI.wb.lt
    have u2 : w1.heap.size + 1 < W.heap.size := hI.fb.lt
    have u3 : b < W.heap.size := RW.bx.lt
    have j0 : (0 : Int) ≤ (n0 : Int) := by omega
    have j1 : (n0 : Int) < (T.length : Int) := by omega
    have htd := tyD_at hn0
    have hfl : T[n0].fs.length ≤ 140737488355328 := by
      have e1 := tyD_fs HO.out.2.2 (n0 : Int)
      rw [htd] at e1
      rw [e1]
      have hnl : n0 < L.length := by have := HO.out.1.tlen; omega
      rw [tyD_at hnl]
      exact (HO.out.1.lf _ (List.getElem_mem hnl)).most
    have hrow := own_rdv (OW.fs _ (List.getElem_mem hn0)) hfl
    have IX := hid_of (ix_any W T[n0].sl T[n0].fs hrow nm w.heap.size (hI.pb.cell 0))
    have HRW := hid_of hrow
    have HW := hid_of hI
    have HX := hid_of (And.intro hx htd)
    have HLT := hid_of hlt
    obtain ⟨fsl, hfsl⟩ : ∃ q, q = T[n0].sl := ⟨_, rfl⟩
    obtain ⟨fss, hfss⟩ : ∃ q, q = T[n0].fs := ⟨_, rfl⟩
    rw [← hfsl, ← hfss] at IX HRW
    rw [← hfsl] at cf
    have HFSS := hid_of hfss
    clear hI hlt hcm hrow hfl RW OW hga htd x0 x1 hfsl hfss
    have hm1 : 1 ≤ n - 1 - 1 := by omega
    cases hfd : fss.find? (nmB nm) with
    | none =>
      have HFD := hid_of hfd
      have dk : decide ((-1 : Int) ≥ 0) = false := rfl
      clear hfd
      gi_wp2_with (refine ⟨trivial, ?_⟩; gi_at_call 19; refine (CallsIn.inRound _ (callsIn_wide.2 IX.out)).mono ?_; rintro e w5 ⟨k, rfl, hk, hB5⟩; have B5 := hid_of hB5; clear hB5; rcases hk with ⟨rfl, hk⟩ | ⟨q, rfl, hq, hk⟩ <;> (rw [HFD.out] at hk; first | cases hk; done | clear hk))
      have hgr : W.grownBy w5 none := ⟨B5.out.os, B5.out.tape, B5.out.output, B5.out.size, fun k hk _ => B5.out.block k hk⟩
      have h2 := HW.out.call HNN.out B5.out
      have hsz := HW.out.big
      refine ⟨KeepsFrom.of_grownBy hgr (fun j e => by cases e), ⟨⟨B5.out.os, B5.out.tape, B5.out.output, B5.out.size, fun k hk => B5.out.block k (by have := HNN.out; omega)⟩, B5.out.block _ (by have := HS.out; omega), B5.out.block _ (by have := HS.out; omega)⟩, ⟨h2.pb, h2.rb, h2.ob, h2.wb, h2.fb, ?_, h2.be, h2.big⟩⟩
      intro y hy
      rw [List.mem_append] at hy
      rcases hy with hy | hy
      · exact h2.nd y hy
      · rw [List.mem_singleton] at hy
        subst hy
        dsimp only
        rw [HX.out.2, ← HFSS.out]
        exact HFD.out
    | some f2 =>
      have HFD := hid_of hfd
      clear hfd
      gi_wp2_with (refine ⟨trivial, ?_⟩; gi_at_call 19; refine (CallsIn.inRound _ (callsIn_wide.2 IX.out)).mono ?_; rintro e w5 ⟨k, rfl, hk, hB5⟩; have B5 := hid_of hB5; rcases hk with ⟨rfl, hk⟩ | ⟨q, rfl, hq, hk⟩ <;> (rw [HFD.out] at hk; first | (cases hk; done) | skip); (obtain ⟨g5, o5, hga5, _, hcm5⟩ := (HRW.out.below hB5).elem (fun _ => rfl) q hq); have hn5 := HRW.out.len; injection hk with hk; rw [← hk] at hcm5; have l5 := ldT_mid (ty := 33) hcm5 Tryd.underlying33 rfl (by kernel_rfl); have q0 : (0 : Int) ≤ (q : Int) := (by omega); have q1 : (q : Int) < (fss.length : Int) := (by omega); have dk : decide ((q : Int) ≥ 0) = true := decide_eq_true (by omega); have h5 := hid_of (HW.out.call HNN.out hB5); obtain ⟨Z5, zr5, HZ5⟩ := fill_tq (fdE f2) h5.out.rb rfl (by kernel_rfl) (fd_one _); have o5c := (h5.out.ob.tq HZ5.out.2 (by omega)).cell 0; have o5f := (h5.out.ob.tq HZ5.out.2 (by omega)).fz 0; have o5l := (h5.out.ob.tq HZ5.out.2 (by omega)).lt; simp at o5c; clear hB5 hk hcm5 hq)
      have hgr : W.grownBy w5 none := ⟨B5.out.os, B5.out.tape, B5.out.output, B5.out.size, fun k hk _ => B5.out.block k hk⟩
      have tz := HZ5.out.2
      have hgz : w5.grownBy Z5 (some (w.heap.size + 1)) := ⟨tz.os, tz.tape, tz.output, tz.size, fun k hk hne => tz.blk k hk (fun e => hne (by rw [e]))⟩
      refine ⟨((KeepsFrom.of_grownBy hgr (fun j e => by cases e)).trans (KeepsFrom.of_grownBy hgz (fun j e => by injection e with e; have := HNN.out; omega))).trans ((KeepsOthers.setCell Z5 _ _).from _), rfl, ?_, (h5.out.ob.tq tz (by omega)).set _, ?_⟩
      · refine ⟨pre, ⟨(n0 : Int), hx⟩, f2, rfl, HW.out.nd, ?_, HZ5.out.1.tq (Tq.set (P := fun k => k = w.heap.size + 1 + 1) rfl) (by omega)⟩
        dsimp only
        rw [HX.out.2, ← HFSS.out]
        exact HFD.out
      · have hbw : Below w.heap.size w w5 := HBV.out.trans ((h5.out.be).mono HBV.out.size)
        exact (below_tqH hbw tz (by intro k hk e; omega)).setCell (p := ⟨w.heap.size + 1 + 1, 0, none⟩) (by simp; omega) _
  case done =>
    rintro D ys W hD hys hI hK
    exfalso
    have hnone : fldP T t nm = none := by
      unfold fldP
      rw [← hys, List.findSome?_eq_none_iff]
      intro x hx
      obtain ⟨y, hy, rfl⟩ := List.mem_map.1 hx
      exact hI.nd y hy
    rw [HFT.out] at hnone
    cases hnone
  case stop =>
    rintro D cd pre W hD hpre ⟨rfl, hF, hb, hB⟩ hK
    obtain ⟨p0, x, f2, rfl, h2, h3, h4⟩ := hF
    have hff : fldP T t nm = some f2 := by
      rw [List.map_append, List.map_singleton] at hpre
      exact find_pre hpre (by intro y hy; obtain ⟨z, hz, rfl⟩ := List.mem_map.1 hy; exact h2 z hz) h3
    rw [HFT.out] at hff
    injection hff with hff
    subst hff
    have hrc := hb.cell 0
    simp at hrc
    gi_wp2
    refine ⟨by simp, .inl ⟨_, _, rfl, run_takeDeferred hK, ?_⟩⟩
    have hg6 := grownBy_putObj' W D (.deferred none)
    have hc5 := cell_kept hrc hg6 (fun r e => by cases e; exact ⟨_, hK, rfl⟩)
    have hDn : w.heap.size + 1 ≠ D := by have := HNN.out; omega
    have h4' : BA (W.putObj D (.deferred none)) (w.heap.size + 1) 33 (fdE f) := (World.putObj_heap_other hDn).trans h4
    have g0 : (W.putObj D (.deferred none)).cell? ⟨w.heap.size + 1, 0, none⟩ = some (.string f.nm) := h4'.cell 0
    have g1' : (W.putObj D (.deferred none)).cell? ⟨w.heap.size + 1, 1, none⟩ = some (.int .i64 f.ty) := h4'.cell 1
    have g2 : (W.putObj D (.deferred none)).cell? ⟨w.heap.size + 1, 2, none⟩ = some (.int .i64 f.off) := h4'.cell 2
    refine ⟨.tuple #[.agg (fdE f), .bool true], ?_, rfl, hB.trans (belowK_b (w := w) (Nat.le_refl _) W D _ _ (by have := HNN.out; omega) hK rfl rfl)⟩
    simp [results, Tryd.f7, go_sem, hc5, g0, g1', g2, fdE]
theorem field_any (w : World) (hv : Vs w) (s : Sl) (L : List Tt) (h : LsR w s L) (hrd : readB L = true) (t : Int) (ht : isB L t 10 = true) (nm : ByteArray) (f : Fd) (hf : fldP L t nm = some f) : Calls Tryd.prog 7 #[.slice s.a s.n s.c, .int .i64 t, .string nm] w fun e w' => e = .returned (.tuple #[.agg (fdE f), .bool true]) ∧ Below w.heap.size w w' := callsIn_wide.1 (field_in 8 (by omega) w hv s L h hrd t ht nm f hf)
end Go.Proofs.YtgkfnfilomjphaaDoor
