/-
  Layer 11: the names of a row's records; whether a record, or one that it extends, has a field of a name.
-/
import Derived.Test.YtgkfnfilomjphaaDoorVup
import Derived.Test.YtgkfnfilomjphaaDoorVmp
import Derived.Test.YtgkfnfilomjphaaDoorVfl
namespace Go.Proofs.YtgkfnfilomjphaaDoor
set_option linter.unusedVariables false
set_option linter.unusedSimpArgs false
open Go.ChangeShapes Go.WideShapes Go.ChangeAt Go.RowKit Go.Shelf
attribute [local go_sem] Oper.semAt_some
attribute [local go_sem ↓] ldY_seal stY_seal ldF_seal stF_seal

def nmL (t : Tt) : List Bs := t.fs.map fun f => f.nm.data.toList
def vE (v : Value) : Array Value := #[v]
/-- The names of a row's records. -/
structure NmR (X : World) (b : Nat) (c : Rc) (T : List Tt) (M : List Value) : Prop where
  na : RdV X 1 c.na M.length (flat vE M)
  ln : T.length ≤ M.length
  mp : ∀ k (hk : k < M.length) (h2 : k < T.length), T[k].fm = 10 → ∃ m, M[k] = .map (some m) ∧ MapIs X m (seenL (nmL T[k]).reverse)
theorem NmR.below {X Y : World} {b : Nat} {c : Rc} {T : List Tt} {M : List Value} (h : NmR X b c T M) (hb : Below X.heap.size X Y) : NmR Y b c T M := ⟨h.na.below hb, h.ln, fun k hk h2 hf => by obtain ⟨m, h3, h4⟩ := h.mp k hk h2 hf; exact ⟨m, h3, h4.call hb⟩⟩
def hsB (T : List Tt) (i : Int) (k : Bs) : Bool := (upA T i).any fun x => (nmL (tyD T x)).contains k
/-- What stands between two rounds. -/
structure HN (w W : World) (b : Nat) (nm : ByteArray) (T : List Tt) (pre : List (Rcd T)) : Prop where
  pb : BA W w.heap.size 43 #[.pointer (some ⟨b, 0, none⟩)]
  nb : BA W (w.heap.size + 1) 9 #[.string nm]
  rb : BA W (w.heap.size + 1 + 1) 4 #[.bool false]
  nd : ∀ x ∈ pre, (nmL (tyD T x.1)).contains nm.data.toList = false
  be : Below w.heap.size w W
  big : w.heap.size + 5 ≤ W.heap.size
theorem HN.grown {w W W' : World} {b : Nat} {nm : ByteArray} {T : List Tt} {pre : List (Rcd T)} {row : Option Nat} (h : HN w W b nm T pre) (hg : W.grownBy W' row) (hr : ∀ r, row = some r → w.heap.size + 5 ≤ r) : HN w W' b nm T pre := by
  have ne : ∀ k, k < w.heap.size + 5 → ¬ (some k = row) := fun k hk e => by have := hr k e.symm; omega
  exact ⟨(hg.block _ h.pb.lt (ne _ (by omega))).trans h.pb, (hg.block _ h.nb.lt (ne _ (by omega))).trans h.nb, (hg.block _ h.rb.lt (ne _ (by omega))).trans h.rb, h.nd, ⟨hg.os.trans h.be.os, hg.tape.trans h.be.tape, hg.output.trans h.be.output, Nat.le_trans h.be.size hg.size, fun k hk => (hg.block k (Nat.lt_of_lt_of_le hk h.be.size) (ne k (by omega))).trans (h.be.block k hk)⟩, Nat.le_trans h.big hg.size⟩
set_option maxRecDepth 100000 in
set_option maxHeartbeats 8000000 in
theorem hasName_in (n : Nat) (hn : 4 ≤ n) (w : World) (b : Nat) (c : Rc) (L T : List Tt) (A : List Int) (M : List Value) (hr : RwR w b c L T A) (hm : NmR w b c T M) (hg : Good T) (i : Int) (hi : i = 0 ∨ isB T i 10 = true) (nm : ByteArray) (hs : nm.size ≤ maxLen) :
    CallsIn Fence.wide n Tryd.prog 39 #[.pointer (some ⟨b, 0, none⟩), .int .i64 i, .string nm] w fun e W' => e = .returned (.bool (hsB T i nm.data.toList)) ∧ Below w.heap.size w W' := by
  have h1 : 1 ≤ n := by omega
  obtain ⟨W1, hW1⟩ : ∃ W1, W1 = (((w.alloc (.cells #[.pointer (some ⟨b, 0, none⟩)] 43)).alloc (.cells #[.string nm] 9)).alloc (.cells #[.bool false] 4)) := ⟨_, rfl⟩
  have s1 : W1.heap.size = w.heap.size + 3 := by rw [hW1]; simp
  obtain ⟨W0, hW0⟩ : ∃ W0, W0 = ((W1.alloc (.cells #[.pointer (some ⟨b, 0, none⟩)] 43)).alloc (.cells #[.int .i64 i] 3)) := ⟨_, rfl⟩
  have s0 : W0.heap.size = w.heap.size + 5 := by rw [hW0]; simp [s1]
  have hB0 : Below w.heap.size w W0 := by rw [hW0, hW1]; go_grown
  have k1 : Below W1.heap.size W1 W0 := by rw [hW0]; go_grown
  have B3 : BA W0 (w.heap.size + 3) 43 #[.pointer (some ⟨b, 0, none⟩)] := by
    rw [hW0, ← s1]
    exact (BA.new W1 _ _).below ((Below.refl _ _).alloc (Nat.le_refl _) _)
  have B4 : BA W0 (w.heap.size + 4) 3 #[.int .i64 i] := by
    rw [hW0, show w.heap.size + 4 = (W1.alloc (.cells #[.pointer (some ⟨b, 0, none⟩)] 43)).heap.size by simp [s1]]
    exact BA.new _ _ _
  have N0 : HN w W0 b nm T [] := by
    refine ⟨BA.below ?_ k1, BA.below ?_ k1, BA.below ?_ k1, (by intro x hx; simp at hx), hB0, by omega⟩
    · rw [hW1]
      exact ((BA.new w _ _).below ((Below.refl _ _).alloc (Nat.le_refl _) _)).below ((Below.refl _ _).alloc (Nat.le_refl _) _)
    · rw [hW1, show w.heap.size + 1 = (w.alloc (.cells #[.pointer (some ⟨b, 0, none⟩)] 43)).heap.size by simp]
      exact (BA.new _ _ _).below ((Below.refl _ _).alloc (Nat.le_refl _) _)
    · rw [hW1, show w.heap.size + 1 + 1 = ((w.alloc (.cells #[.pointer (some ⟨b, 0, none⟩)] 43)).alloc (.cells #[.string nm] 9)).heap.size by simp]
      exact BA.new _ _ _
  have HN0 := hid_of N0
  have HB3 := hid_of B3
  have HB4 := hid_of B4
  have HR := hid_of hr
  have HM := hid_of hm
  have HG := hid_of hg
  have HI := hid_of hi
  have HS := hid_of s0
  have hHS := hid_of hs
  clear N0 B3 B4 hr hm hg hi hB0 k1 s1 s0 hs
  refine callsIn_of_wp_marks Tryd.func39 rfl trivial ?_ rfl
  simp only [Tryd.ntmps39, List.size_toArray, List.length_cons, List.length_nil, Nat.reduceAdd, Nat.reduceSub, Array.replicate_succ, Array.replicate_zero, List.push_toArray, List.append_toArray, List.nil_append, List.cons_append]
  gi_wp2_with (refine ⟨trivial, ?_⟩; gi_at_call 18; refine (upFrom_in (n - 1) _ _ _).mono ?_; rintro e w' ⟨rfl, rfl⟩)
  rw [← hW1, ← hW0]
  clear hW0 hW1
  have hsz := HS.out
  have hb0 : Below w.heap.size w W0 := HN0.out.be
  refine wpIn_rangeFunc_ownG rfl h1 (gf := 35) (lb := #[.pointer (some ⟨w.heap.size + 1 + 1 + 1 + 1, 0, none⟩), .pointer (some ⟨w.heap.size + 1 + 1 + 1, 0, none⟩)]) rfl trivial (enters_of Tryd.func35 (by kernel_rfl) rfl)
    (w0 := W0) (encs := fun x : Rcd T => #[.int .i64 x.1]) (Kp := KpU w.heap.size (w.heap.size + 4) (w.heap.size + 3)) (S := fun ys => ys.map (·.1) = upA T i) (Sp := fun pre => pre.map (·.1) <+: upA T i) (N := (upA T i).length)
    (fun l₀ J Jx W hW hJ hJx hY h0 => up1s_in Fence.wide (n - 1) trivial rfl (by omega) l₀ (w.heap.size + 4) (w.heap.size + 3) b w c L T A HR.out HG.out i HI.out J Jx (fun s A B hs hg => hJ s A B none hs hg (fun r e => by cases e)) hY W (hb0.trans (hW.mono hb0.size)) (HB4.out.below hW) (HB3.out.below hW) h0)
    KpU.t (fun W l o o' h1 h2 _ _ => KpU.b (N := W0.heap.size) (by rw [hsz]; omega) (by rw [hsz]; omega) (by rw [hsz]; omega) W l o o' h1 h2) (Below.refl _ _) (fun _ => rfl)
    (fun pre W => HN w W b nm T pre)
    (fun cd pre W => cd = .ret ∧ BA W (w.heap.size + 1 + 1) 4 #[.bool true] ∧ (∃ x ∈ pre, (nmL (tyD T x.1)).contains nm.data.toList = true) ∧ Below w.heap.size w W)
    (fun s A B row hs hg hr => hs.grown hg (fun r e => by have := (hr r e).1; omega))
    (fun cd s A B row hs hg hr => ⟨hs.1, (hg.block _ hs.2.1.lt (fun e => by have := (hr _ e.symm).1; omega)).trans hs.2.1, hs.2.2.1, ⟨hg.os.trans hs.2.2.2.os, hg.tape.trans hs.2.2.2.tape, hg.output.trans hs.2.2.2.output, Nat.le_trans hs.2.2.2.size hg.size, fun k hk => (hg.block k (Nat.lt_of_lt_of_le hk hs.2.2.2.size) (fun e => by have := (hr _ e.symm).1; omega)).trans (hs.2.2.2.block k hk)⟩⟩)
    HN0.out
    (fun x => { tmps := #[.pointer (some ⟨b, 0, none⟩), .int .i64 i, .string nm, .pointer (some ⟨w.heap.size, 0, none⟩), undef, .pointer (some ⟨w.heap.size + 1, 0, none⟩), .pointer (some ⟨w.heap.size + 1 + 1, 0, none⟩), .int .i64 x.1, undef, undef, .pointer (some ⟨b, 0, none⟩), .int .i64 i, .func (.func 35) #[] #[.pointer (some ⟨w.heap.size + 1 + 1 + 1 + 1, 0, none⟩), .pointer (some ⟨w.heap.size + 1 + 1 + 1, 0, none⟩)], .int .i64 x.1, undef, undef, undef, undef, undef, undef, undef, undef, undef, undef, undef, undef, undef], defers := [] }) ?assign ?body ?done ?stop
  case assign =>
    intro l x W K hK
    gi_wp2
    exact hK
  case body =>
    rintro l' pre x W hI hlt
    obtain ⟨xv, hx⟩ := x
    obtain ⟨x0, x1⟩ := isB_has hx
    obtain ⟨n0, rfl⟩ : ∃ n0 : Nat, xv = (n0 : Int) := ⟨xv.toNat, by omega⟩
    have hn0 : n0 < T.length := by omega
    have hfm := isB_fm hx
    have hMl : n0 < M.length := Nat.lt_of_lt_of_le hn0 HM.out.ln
    obtain ⟨m, hm1, hm2⟩ := HM.out.mp n0 hMl hn0 (by rw [← tyD_at hn0]; exact hfm)
    obtain ⟨g, off, hga, hgl, hc⟩ := (HM.out.na.below hI.be).elem (fun _ => rfl) n0 hMl
    have cm : W.cell? ⟨g, off + n0 * 1 + 0, none⟩ = some M[n0] := hc 0 _ rfl
    rw [Nat.add_zero, Nat.mul_one, hm1] at cm
    have ca : W.cell? ⟨w.heap.size, 0, none⟩ = some (.pointer (some ⟨b, 0, none⟩)) := hI.pb.cell 0
    have cn : W.cell? ⟨w.heap.size + 1, 0, none⟩ = some (.string nm) := hI.nb.cell 0
    have cb : W.cell? ⟨b, 3, none⟩ = some (.slice c.na.a c.na.n c.na.c) := (HR.out.bx.below hI.be).cell 3
    rw [hga, HM.out.na.len] at cb
    have rc : W.cell? ⟨w.heap.size + 1 + 1, 0, none⟩ = some (.bool false) := hI.rb.cell 0
    have rf := hI.rb.fz 0
    have hp0 : w.heap.size < W.heap.size := hI.pb.lt
    have hp1 : w.heap.size + 1 < W.heap.size := hI.nb.lt
    have hp2 : w.heap.size + 1 + 1 < W.heap.size := hI.rb.lt
    have hpb : b < W.heap.size := (HR.out.bx.below hI.be).lt
    have j0 : (0 : Int) ≤ (n0 : Int) := by omega
    have j1 : (n0 : Int) < (M.length : Int) := by omega
    have HW := hid_of hI
    have mk := hm2.below hI.be hm2.lt
    have hlk := look_seen (nmL T[n0]).reverse nm.data.toList
    rw [List.contains_reverse] at hlk
    have HX := hid_of (And.intro hn0 hx)
    have htd := tyD_at hn0
    cases hcn : (nmL T[n0]).contains nm.data.toList
    · rw [hcn] at hlk
      have HC := hid_of (show (nmL (tyD T (n0 : Int))).contains nm.data.toList = false by rw [htd]; exact hcn)
      have hl : ∀ X : World, Below w.heap.size w X → (Instr.lookup 76 (.map (some m)) (.string nm) true).run Tryd.prog X = .ok (.tuple #[.agg #[], .bool false]) X := fun X hX => by
        have h := (hm2.below hX hm2.lt).look (t := 76) (e := 77) Tryd.underlying76 (zeroU X) nm hHS.out
        rw [hlk] at h
        exact h
      have HL := hid_of hl
      clear hI hlk hcn hc hga hm1 hm2 mk x0 x1 hfm htd hlt hl
      gi_wp2
      refine wpIn_region_flat (S := fun X => Below W.heap.size W X) (by kernel_rfl) (by kernel_rfl) (Below.refl _ _).drew (fun hHeld => ?_)
      refine wpAnyH_take (i := 0) (v := ?_) rfl (by kernel_rfl) (by kernel_rfl) (by kernel_rfl) (fun _ _ _ h => h) (Or.inl ⟨by kernel_rfl, ?y0a⟩) hHeld ?r0a
      case y0a => (intro wq hSw; have q0 := (hSw.cell (p := ⟨w.heap.size, 0, none⟩) hp0).trans ca; have q1 := (hSw.cell (p := ⟨w.heap.size + 1, 0, none⟩) hp1).trans cn; have q2 := (hSw.cell (p := ⟨b, 3, none⟩) hpb).trans cb; have q3 := (hSw.cell (p := ⟨g, off + n0, none⟩) hgl).trans cm; have q4 := HL.out wq (HW.out.be.trans (hSw.mono HW.out.be.size)); go_simp; try rfl)
      simp only [Act.put, List.setIfInBounds_toArray, List.set_cons_zero, List.set_cons_succ]
      refine wpAnyH_take (i := 1) (v := ?_) rfl (by kernel_rfl) (by kernel_rfl) (by kernel_rfl) (fun _ _ _ h => h) (Or.inl ⟨by kernel_rfl, ?y1a⟩) hHeld ?r1a
      case y1a => (intro wq hSw; go_simp; try rfl)
      simp only [Act.put, List.setIfInBounds_toArray, List.set_cons_zero, List.set_cons_succ]
      refine wpAnyH_take (i := 2) (v := ?_) rfl (by kernel_rfl) (by kernel_rfl) (by kernel_rfl) (fun _ _ _ h => h) (Or.inl ⟨by kernel_rfl, ?y2a⟩) hHeld ?r2a
      case y2a => (intro wq hSw; go_simp; try rfl)
      simp only [Act.put, List.setIfInBounds_toArray, List.set_cons_zero, List.set_cons_succ]
      refine wpAnyH_take (i := 3) (v := ?_) rfl (by kernel_rfl) (by kernel_rfl) (by kernel_rfl) (fun _ _ _ h => h) (Or.inl ⟨by kernel_rfl, ?y3a⟩) hHeld ?r3a
      case y3a => (intro wq hSw; have q0 := (hSw.cell (p := ⟨w.heap.size, 0, none⟩) hp0).trans ca; have q1 := (hSw.cell (p := ⟨w.heap.size + 1, 0, none⟩) hp1).trans cn; have q2 := (hSw.cell (p := ⟨b, 3, none⟩) hpb).trans cb; have q3 := (hSw.cell (p := ⟨g, off + n0, none⟩) hgl).trans cm; have q4 := HL.out wq (HW.out.be.trans (hSw.mono HW.out.be.size)); go_simp; try rfl)
      simp only [Act.put, List.setIfInBounds_toArray, List.set_cons_zero, List.set_cons_succ]
      refine wpAnyH_take (i := 4) (v := ?_) rfl (by kernel_rfl) (by kernel_rfl) (by kernel_rfl) (fun _ _ _ h => h) (Or.inl ⟨by kernel_rfl, ?y4a⟩) hHeld ?r4a
      case y4a => (intro wq hSw; go_simp; try rfl)
      simp only [Act.put, List.setIfInBounds_toArray, List.set_cons_zero, List.set_cons_succ]
      refine wpAnyH_take (i := 5) (v := ?_) rfl (by kernel_rfl) (by kernel_rfl) (by kernel_rfl) (fun _ _ _ h => h) (Or.inl ⟨by kernel_rfl, ?y5a⟩) hHeld ?r5a
      case y5a => (intro wq hSw; go_simp; try rfl)
      simp only [Act.put, List.setIfInBounds_toArray, List.set_cons_zero, List.set_cons_succ]
      refine wpAnyH_take (i := 6) (v := ?_) rfl (by kernel_rfl) (by kernel_rfl) (by kernel_rfl) (fun _ _ _ h => h) (Or.inl ⟨by kernel_rfl, ?y6a⟩) hHeld ?r6a
      case y6a => (intro wq hSw; have q0 := (hSw.cell (p := ⟨w.heap.size, 0, none⟩) hp0).trans ca; have q1 := (hSw.cell (p := ⟨w.heap.size + 1, 0, none⟩) hp1).trans cn; have q2 := (hSw.cell (p := ⟨b, 3, none⟩) hpb).trans cb; have q3 := (hSw.cell (p := ⟨g, off + n0, none⟩) hgl).trans cm; have q4 := HL.out wq (HW.out.be.trans (hSw.mono HW.out.be.size)); go_simp; try rfl)
      simp only [Act.put, List.setIfInBounds_toArray, List.set_cons_zero, List.set_cons_succ]
      refine wpAnyH_take (i := 7) (v := ?_) rfl (by kernel_rfl) (by kernel_rfl) (by kernel_rfl) (fun _ _ _ h => h) (Or.inl ⟨by kernel_rfl, ?y7a⟩) hHeld ?r7a
      case y7a => (intro wq hSw; have q0 := (hSw.cell (p := ⟨w.heap.size, 0, none⟩) hp0).trans ca; have q1 := (hSw.cell (p := ⟨w.heap.size + 1, 0, none⟩) hp1).trans cn; have q2 := (hSw.cell (p := ⟨b, 3, none⟩) hpb).trans cb; have q3 := (hSw.cell (p := ⟨g, off + n0, none⟩) hgl).trans cm; have q4 := HL.out wq (HW.out.be.trans (hSw.mono HW.out.be.size)); go_simp; try rfl)
      simp only [Act.put, List.setIfInBounds_toArray, List.set_cons_zero, List.set_cons_succ]
      refine wpAnyH_take (i := 8) (v := ?_) rfl (by kernel_rfl) (by kernel_rfl) (by kernel_rfl) (fun _ _ _ h => h) (Or.inl ⟨by kernel_rfl, ?y8a⟩) hHeld ?r8a
      case y8a => (intro wq hSw; have q0 := (hSw.cell (p := ⟨w.heap.size, 0, none⟩) hp0).trans ca; have q1 := (hSw.cell (p := ⟨w.heap.size + 1, 0, none⟩) hp1).trans cn; have q2 := (hSw.cell (p := ⟨b, 3, none⟩) hpb).trans cb; have q3 := (hSw.cell (p := ⟨g, off + n0, none⟩) hgl).trans cm; have q4 := HL.out wq (HW.out.be.trans (hSw.mono HW.out.be.size)); go_simp; try rfl)
      simp only [Act.put, List.setIfInBounds_toArray, List.set_cons_zero, List.set_cons_succ]
      refine wpAnyH_take (i := 9) (v := ?_) rfl (by kernel_rfl) (by kernel_rfl) (by kernel_rfl) (fun _ _ _ h => h) (Or.inl ⟨by kernel_rfl, ?y9a⟩) hHeld ?r9a
      case y9a => (intro wq hSw; go_simp; try rfl)
      simp only [Act.put, List.setIfInBounds_toArray, List.set_cons_zero, List.set_cons_succ]
      refine wpAnyH_take (i := 10) (v := ?_) rfl (by kernel_rfl) (by kernel_rfl) (by kernel_rfl) (fun _ _ _ h => h) (Or.inl ⟨by kernel_rfl, ?y10a⟩) hHeld ?r10a
      case y10a => (intro wq hSw; go_simp; try rfl)
      simp only [Act.put, List.setIfInBounds_toArray, List.set_cons_zero, List.set_cons_succ]
      refine wpAnyH_take (i := 11) (v := ?_) rfl (by kernel_rfl) (by kernel_rfl) (by kernel_rfl) (fun _ _ _ h => h) (Or.inl ⟨by kernel_rfl, ?y11a⟩) hHeld ?r11a
      case y11a => (intro wq hSw; go_simp; try rfl)
      simp only [Act.put, List.setIfInBounds_toArray, List.set_cons_zero, List.set_cons_succ]
      refine wpAnyH_ready (rs := [12]) (by kernel_rfl) (by simp) ?_
      refine AllReadyH.cons rfl (fun K hK => ?_) AllReadyH.nil
      go_simp
      refine hK.out _ _ ((Below.refl _ _).drew.alloc (Nat.le_refl _) _) (fun _ => ?_)
      clear hK K
      refine wpAnyH_ready (rs := [13]) (by kernel_rfl) (by simp) ?_
      refine AllReadyH.cons rfl (fun K hK => ?_) AllReadyH.nil
      go_simp
      refine hK.out _ _ ((Below.refl _ _).drew.alloc (Nat.le_refl _) _) (fun _ => ?_)
      clear hK K
      refine wpAnyH_ready (rs := [14]) (by kernel_rfl) (by simp) ?_
      refine AllReadyH.cons rfl (fun K hK => ?_) AllReadyH.nil
      go_simp
      refine hK.out _ _ ((Below.refl _ _).drew.alloc (Nat.le_refl _) _) (fun _ => ?_)
      clear hK K
      refine wpAnyH_done (by kernel_rfl) ?_ _
      refine ⟨by simp, ?_⟩
      gi_wp2
      have hB : Below W.heap.size W (W.drew.alloc (.cells #[] 77)) := (Below.refl _ _).drew.alloc (Nat.le_refl _) _
      have hgr : W.grownBy (W.drew.alloc (.cells #[] 77)) none := ⟨hB.os, hB.tape, hB.output, hB.size, fun k hk _ => hB.block k hk⟩
      have h2 := HW.out.grown hgr (fun r e => by cases e)
      refine ⟨KeepsFrom.of_grownBy hgr (fun j e => by cases e), ⟨⟨hB.os, hB.tape, hB.output, hB.size, fun k hk => hB.block k (by omega)⟩, hB.block _ (by have := HW.out.big; omega), hB.block _ (by have := HW.out.big; omega)⟩, ⟨h2.pb, h2.nb, h2.rb, ?_, h2.be, h2.big⟩⟩
      intro y hy
      rw [List.mem_append] at hy
      rcases hy with hy | hy
      · exact h2.nd y hy
      · rw [List.mem_singleton] at hy
        subst hy
        exact HC.out
    · rw [hcn] at hlk
      have HC := hid_of (show (nmL (tyD T (n0 : Int))).contains nm.data.toList = true by rw [htd]; exact hcn)
      have hl : ∀ X : World, Below w.heap.size w X → (Instr.lookup 76 (.map (some m)) (.string nm) true).run Tryd.prog X = .ok (.tuple #[.agg #[], .bool true]) X := fun X hX => by
        have h := (hm2.below hX hm2.lt).look (t := 76) (e := 77) Tryd.underlying76 (zeroU X) nm hHS.out
        rw [hlk] at h
        exact h
      have HL := hid_of hl
      have B2 : BA (W.drew.alloc (.cells #[] 77)) (w.heap.size + 1 + 1) 4 #[.bool false] := hI.rb.below ((Below.refl _ _).drew.alloc (Nat.le_refl _) _)
      have rc2 := B2.cell 0
      have rf2 := B2.fz 0
      simp at rc2
      have HB2 := hid_of B2
      clear hI hlk hcn hc hga hm1 hm2 mk x0 x1 hfm htd hlt hl B2
      gi_wp2
      refine wpIn_region_flat (S := fun X => Below W.heap.size W X) (by kernel_rfl) (by kernel_rfl) (Below.refl _ _).drew (fun hHeld => ?_)
      refine wpAnyH_take (i := 0) (v := ?_) rfl (by kernel_rfl) (by kernel_rfl) (by kernel_rfl) (fun _ _ _ h => h) (Or.inl ⟨by kernel_rfl, ?y0b⟩) hHeld ?r0b
      case y0b => (intro wq hSw; have q0 := (hSw.cell (p := ⟨w.heap.size, 0, none⟩) hp0).trans ca; have q1 := (hSw.cell (p := ⟨w.heap.size + 1, 0, none⟩) hp1).trans cn; have q2 := (hSw.cell (p := ⟨b, 3, none⟩) hpb).trans cb; have q3 := (hSw.cell (p := ⟨g, off + n0, none⟩) hgl).trans cm; have q4 := HL.out wq (HW.out.be.trans (hSw.mono HW.out.be.size)); go_simp; try rfl)
      simp only [Act.put, List.setIfInBounds_toArray, List.set_cons_zero, List.set_cons_succ]
      refine wpAnyH_take (i := 1) (v := ?_) rfl (by kernel_rfl) (by kernel_rfl) (by kernel_rfl) (fun _ _ _ h => h) (Or.inl ⟨by kernel_rfl, ?y1b⟩) hHeld ?r1b
      case y1b => (intro wq hSw; go_simp; try rfl)
      simp only [Act.put, List.setIfInBounds_toArray, List.set_cons_zero, List.set_cons_succ]
      refine wpAnyH_take (i := 2) (v := ?_) rfl (by kernel_rfl) (by kernel_rfl) (by kernel_rfl) (fun _ _ _ h => h) (Or.inl ⟨by kernel_rfl, ?y2b⟩) hHeld ?r2b
      case y2b => (intro wq hSw; go_simp; try rfl)
      simp only [Act.put, List.setIfInBounds_toArray, List.set_cons_zero, List.set_cons_succ]
      refine wpAnyH_take (i := 3) (v := ?_) rfl (by kernel_rfl) (by kernel_rfl) (by kernel_rfl) (fun _ _ _ h => h) (Or.inl ⟨by kernel_rfl, ?y3b⟩) hHeld ?r3b
      case y3b => (intro wq hSw; have q0 := (hSw.cell (p := ⟨w.heap.size, 0, none⟩) hp0).trans ca; have q1 := (hSw.cell (p := ⟨w.heap.size + 1, 0, none⟩) hp1).trans cn; have q2 := (hSw.cell (p := ⟨b, 3, none⟩) hpb).trans cb; have q3 := (hSw.cell (p := ⟨g, off + n0, none⟩) hgl).trans cm; have q4 := HL.out wq (HW.out.be.trans (hSw.mono HW.out.be.size)); go_simp; try rfl)
      simp only [Act.put, List.setIfInBounds_toArray, List.set_cons_zero, List.set_cons_succ]
      refine wpAnyH_take (i := 4) (v := ?_) rfl (by kernel_rfl) (by kernel_rfl) (by kernel_rfl) (fun _ _ _ h => h) (Or.inl ⟨by kernel_rfl, ?y4b⟩) hHeld ?r4b
      case y4b => (intro wq hSw; go_simp; try rfl)
      simp only [Act.put, List.setIfInBounds_toArray, List.set_cons_zero, List.set_cons_succ]
      refine wpAnyH_take (i := 5) (v := ?_) rfl (by kernel_rfl) (by kernel_rfl) (by kernel_rfl) (fun _ _ _ h => h) (Or.inl ⟨by kernel_rfl, ?y5b⟩) hHeld ?r5b
      case y5b => (intro wq hSw; go_simp; try rfl)
      simp only [Act.put, List.setIfInBounds_toArray, List.set_cons_zero, List.set_cons_succ]
      refine wpAnyH_take (i := 6) (v := ?_) rfl (by kernel_rfl) (by kernel_rfl) (by kernel_rfl) (fun _ _ _ h => h) (Or.inl ⟨by kernel_rfl, ?y6b⟩) hHeld ?r6b
      case y6b => (intro wq hSw; have q0 := (hSw.cell (p := ⟨w.heap.size, 0, none⟩) hp0).trans ca; have q1 := (hSw.cell (p := ⟨w.heap.size + 1, 0, none⟩) hp1).trans cn; have q2 := (hSw.cell (p := ⟨b, 3, none⟩) hpb).trans cb; have q3 := (hSw.cell (p := ⟨g, off + n0, none⟩) hgl).trans cm; have q4 := HL.out wq (HW.out.be.trans (hSw.mono HW.out.be.size)); go_simp; try rfl)
      simp only [Act.put, List.setIfInBounds_toArray, List.set_cons_zero, List.set_cons_succ]
      refine wpAnyH_take (i := 7) (v := ?_) rfl (by kernel_rfl) (by kernel_rfl) (by kernel_rfl) (fun _ _ _ h => h) (Or.inl ⟨by kernel_rfl, ?y7b⟩) hHeld ?r7b
      case y7b => (intro wq hSw; have q0 := (hSw.cell (p := ⟨w.heap.size, 0, none⟩) hp0).trans ca; have q1 := (hSw.cell (p := ⟨w.heap.size + 1, 0, none⟩) hp1).trans cn; have q2 := (hSw.cell (p := ⟨b, 3, none⟩) hpb).trans cb; have q3 := (hSw.cell (p := ⟨g, off + n0, none⟩) hgl).trans cm; have q4 := HL.out wq (HW.out.be.trans (hSw.mono HW.out.be.size)); go_simp; try rfl)
      simp only [Act.put, List.setIfInBounds_toArray, List.set_cons_zero, List.set_cons_succ]
      refine wpAnyH_take (i := 8) (v := ?_) rfl (by kernel_rfl) (by kernel_rfl) (by kernel_rfl) (fun _ _ _ h => h) (Or.inl ⟨by kernel_rfl, ?y8b⟩) hHeld ?r8b
      case y8b => (intro wq hSw; have q0 := (hSw.cell (p := ⟨w.heap.size, 0, none⟩) hp0).trans ca; have q1 := (hSw.cell (p := ⟨w.heap.size + 1, 0, none⟩) hp1).trans cn; have q2 := (hSw.cell (p := ⟨b, 3, none⟩) hpb).trans cb; have q3 := (hSw.cell (p := ⟨g, off + n0, none⟩) hgl).trans cm; have q4 := HL.out wq (HW.out.be.trans (hSw.mono HW.out.be.size)); go_simp; try rfl)
      simp only [Act.put, List.setIfInBounds_toArray, List.set_cons_zero, List.set_cons_succ]
      refine wpAnyH_take (i := 9) (v := ?_) rfl (by kernel_rfl) (by kernel_rfl) (by kernel_rfl) (fun _ _ _ h => h) (Or.inl ⟨by kernel_rfl, ?y9b⟩) hHeld ?r9b
      case y9b => (intro wq hSw; go_simp; try rfl)
      simp only [Act.put, List.setIfInBounds_toArray, List.set_cons_zero, List.set_cons_succ]
      refine wpAnyH_take (i := 10) (v := ?_) rfl (by kernel_rfl) (by kernel_rfl) (by kernel_rfl) (fun _ _ _ h => h) (Or.inl ⟨by kernel_rfl, ?y10b⟩) hHeld ?r10b
      case y10b => (intro wq hSw; go_simp; try rfl)
      simp only [Act.put, List.setIfInBounds_toArray, List.set_cons_zero, List.set_cons_succ]
      refine wpAnyH_take (i := 11) (v := ?_) rfl (by kernel_rfl) (by kernel_rfl) (by kernel_rfl) (fun _ _ _ h => h) (Or.inl ⟨by kernel_rfl, ?y11b⟩) hHeld ?r11b
      case y11b => (intro wq hSw; go_simp; try rfl)
      simp only [Act.put, List.setIfInBounds_toArray, List.set_cons_zero, List.set_cons_succ]
      refine wpAnyH_ready (rs := [12]) (by kernel_rfl) (by simp) ?_
      refine AllReadyH.cons rfl (fun K hK => ?_) AllReadyH.nil
      go_simp
      refine hK.out _ _ ((Below.refl _ _).drew.alloc (Nat.le_refl _) _) (fun _ => ?_)
      clear hK K
      refine wpAnyH_ready (rs := [13]) (by kernel_rfl) (by simp) ?_
      refine AllReadyH.cons rfl (fun K hK => ?_) AllReadyH.nil
      go_simp
      refine hK.out _ _ ((Below.refl _ _).drew.alloc (Nat.le_refl _) _) (fun _ => ?_)
      clear hK K
      refine wpAnyH_ready (rs := [14]) (by kernel_rfl) (by simp) ?_
      refine AllReadyH.cons rfl (fun K hK => ?_) AllReadyH.nil
      go_simp
      refine hK.out _ _ ((Below.refl _ _).drew.alloc (Nat.le_refl _) _) (fun _ => ?_)
      clear hK K
      refine wpAnyH_done (by kernel_rfl) ?_ _
      refine ⟨by simp, ?_⟩
      gi_wp2
      have hB : Below W.heap.size W (W.drew.alloc (.cells #[] 77)) := (Below.refl _ _).drew.alloc (Nat.le_refl _) _
      have hgr : W.grownBy (W.drew.alloc (.cells #[] 77)) none := ⟨hB.os, hB.tape, hB.output, hB.size, fun k hk _ => hB.block k hk⟩
      have hdr : ∀ X : World, X.grownBy X.drew none := fun X => ⟨rfl, rfl, rfl, Nat.le_refl _, fun _ _ _ => rfl⟩
      refine ⟨(((KeepsOthers.setCell W _ _).trans (KeepsOthers.alloc _ _)).from _).trans (KeepsFrom.of_grownBy (hdr _) (fun j e => by cases e)), rfl, BA.below (HW.out.rb.set _) ((Below.refl _ _).alloc (Nat.le_refl _) _).drew, ⟨⟨(n0 : Int), hx⟩, by simp, HC.out⟩, ((HW.out.be.setCell (p := ⟨w.heap.size + 1 + 1, 0, none⟩) (by simp; omega) _).alloc (by simpa using HW.out.be.size) _).drew⟩
  case done =>
    rintro D ys W hD hys hI hK
    have rc : W.cell? ⟨w.heap.size + 1 + 1, 0, none⟩ = some (.bool false) := hI.rb.cell 0
    have rf := hI.rb.fz 0
    have HW := hid_of hI
    have hnd : hsB T i nm.data.toList = false := by
      unfold hsB
      rw [← hys, List.any_map, List.any_eq_false]
      intro x hx
      simpa using hI.nd x hx
    clear hI hys
    gi_wp2
    have hK' := (KeepsOthers.setCell W ⟨w.heap.size + 1 + 1, 0, none⟩ (.bool false)).same D _ hK rfl
    refine ⟨by simp, .inl ⟨_, _, rfl, run_takeDeferred hK', ?_⟩⟩
    have hc5 := cell_kept (World.cell?_setCell_same' W ⟨w.heap.size + 1 + 1, 0, none⟩ (.bool false) (by rw [rc]; rfl)) (grownBy_putObj' _ D (.deferred none)) (fun r e => by cases e; exact ⟨_, hK', rfl⟩)
    refine ⟨.bool false, ?_, by rw [hnd], (HW.out.be.setCell (p := ⟨w.heap.size + 1 + 1, 0, none⟩) (by simp; omega) _).trans (belowK_b (w := w) (Nat.le_refl _) _ D _ _ (by rw [hsz] at hD; omega) hK' rfl rfl)⟩
    simp [results, Tryd.f39, go_sem, hc5]
  case stop =>
    rintro D cd pre W hD hpre ⟨rfl, hb, ⟨x, hx, hxc⟩, hB⟩ hK
    have hrc := hb.cell 0
    simp at hrc
    have hnd : hsB T i nm.data.toList = true := by
      unfold hsB
      rw [List.any_eq_true]
      exact ⟨x.1, hpre.subset (List.mem_map.2 ⟨x, hx, rfl⟩), hxc⟩
    gi_wp2
    refine ⟨by simp, .inl ⟨_, _, rfl, run_takeDeferred hK, ?_⟩⟩
    have hc5 := cell_kept hrc (grownBy_putObj' _ D (.deferred none)) (fun r e => by cases e; exact ⟨_, hK, rfl⟩)
    refine ⟨.bool true, ?_, by rw [hnd], hB.trans (belowK_b (w := w) (Nat.le_refl _) W D _ _ (by rw [hsz] at hD; omega) hK rfl rfl)⟩
    simp [results, Tryd.f39, go_sem, hc5]
theorem hasName_any (w : World) (b : Nat) (c : Rc) (L T : List Tt) (A : List Int) (M : List Value) (hr : RwR w b c L T A) (hm : NmR w b c T M) (hg : Good T) (i : Int) (hi : i = 0 ∨ isB T i 10 = true) (nm : ByteArray) (hs : nm.size ≤ maxLen) : Calls Tryd.prog 39 #[.pointer (some ⟨b, 0, none⟩), .int .i64 i, .string nm] w fun e w' => e = .returned (.bool (hsB T i nm.data.toList)) ∧ Below w.heap.size w w' := callsIn_wide.1 (hasName_in 8 (by omega) w b c L T A M hr hm hg i hi nm hs)
end Go.Proofs.YtgkfnfilomjphaaDoor
