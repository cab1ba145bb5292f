/-
  Layer 11: the names of a record's own fields are taken: whether they differ, and whether what it extends has none of them.
-/
import Derived.Test.YtgkfnfilomjphaaDoorVms
namespace Go.Proofs.YtgkfnfilomjphaaDoor
set_option linter.unusedVariables false
set_option linter.unusedSimpArgs false
open Go.ChangeShapes Go.WideShapes Go.ChangeAt Go.RowKit Go.Maps
attribute [local go_sem ↓] ldY_seal stY_seal ldF_seal stF_seal

def fsN (fs : List Fd) : List Bs := fs.map fun f => f.nm.data.toList
def tkB (T : List Tt) (base : Int) (fs : List Fd) : Bool := fs.all (fun f => !hsB T base f.nm.data.toList) && decide (fsN fs).Nodup
/-- What takeNames leaves: memory of its own alone, or the names' place filled besides. -/
def PostK (w : World) (g k : Nat) (r : Bool) (fs : List Fd) (e : Ending) (w' : World) : Prop := e = .returned (.bool r) ∧ ∃ X, Below w.heap.size w X ∧ ((w' = X ∧ r = false) ∨ ∃ m, w.heap.size ≤ m ∧ MapS X m (fsN fs).reverse ∧ w' = X.setCell ⟨g, k, none⟩ (.map (some m)))
theorem fsN_snoc (fs : List Fd) (i : Nat) (h : i < fs.length) : (fsN (fs.take (i + 1))).reverse = fs[i].nm.data.toList :: (fsN (fs.take i)).reverse := by
  unfold fsN
  rw [List.take_add_one, List.getElem?_eq_getElem h, Option.toList_some, List.map_append, List.reverse_append]
  rfl
theorem below_grown {w Z w4 : World} {m : Nat} (hsz : w.heap.size ≤ Z.heap.size) (hm : w.heap.size ≤ m) (h4 : Z.grownBy w4 (some m)) : Below w.heap.size Z w4 := ⟨h4.os, h4.tape, h4.output, h4.size, fun k hk => h4.block k (by omega) (by intro e; injection e with e; omega)⟩
theorem mk_hint (q : Int) (X : World) : (Instr.makeMap 76 (some (.int .i64 q))).run Tryd.prog X = .ok (.map (some X.heap.size)) (X.alloc (.map #[] 0)) := by kernel_rfl
set_option maxRecDepth 100000 in
set_option maxHeartbeats 16000000 in
theorem takeNames_any (w : World) (b : Nat) (c : Rc) (L T : List Tt) (A : List Int) (M : List Value) (hr : RwR w b c L T A) (hm : NmR w b c T M) (hg : Good T) (base : Int) (hi : base = 0 ∨ isB T base 10 = true) (s : Sl) (fs : List Fd) (hf : RdV w 3 s fs.length (flat fdE fs)) (hs : ∀ f ∈ fs, f.nm.size ≤ maxLen) (hlen : fs.length ≤ 200) (hroom : T.length < M.length)
    (g off : Nat) (hga : c.na.a = some ⟨g, off, none⟩) (hgz : w.frozen? ⟨g, off + T.length, none⟩ = false) :
    Calls Tryd.prog 26 #[.pointer (some ⟨b, 0, none⟩), .int .i64 base, .slice s.a s.n s.c] w (PostK w g (off + T.length) (tkB T base fs) fs) := by
  have hmm := mk_hint
  have hsl := hf.len
  obtain ⟨q1, q2, q3⟩ := s
  dsimp only at hsl
  subst hsl
  have HR := hid_of hr
  have HM := hid_of hm
  have HG := hid_of hg
  have HI := hid_of hi
  have HSS := hid_of hs
  have HF := hid_of hf
  obtain ⟨m, hmE⟩ : ∃ m, m = w.heap.size := ⟨_, rfl⟩
  have H0 : Hid (Below w.heap.size w (w.alloc (.map #[] 0)) ∧ MapS (w.alloc (.map #[] 0)) m (fsN (fs.take 0)).reverse ∧ ∀ f ∈ fs.take 0, hsB T base f.nm.data.toList = false) := hid_of ⟨(Below.refl _ _).alloc (Nat.le_refl _) _, by rw [hmE]; simpa [fsN] using MapS.made w, by simp⟩
  have HML : Hid (w.heap.size ≤ m) := hid_of (by omega)
  clear hr hm hg hi hs hf
  go_enter Tryd.func26, Tryd.ntmps26
  go_wp2
  rw [← hmE]
  clear hmE
  go_loopw [15] (fun p wr => ∃ i : Nat, p = .int .i64 (i : Int) ∧ i ≤ fs.length ∧ Hid (Below w.heap.size w wr ∧ MapS wr m (fsN (fs.take i)).reverse ∧ ∀ f ∈ fs.take i, hsB T base f.nm.data.toList = false)) (fun p wr => fs.length - (ivOf p).toNat)
  case atStart => exact ⟨0, rfl, by omega, H0⟩
  case round =>
    obtain ⟨i, rfl, hle, HR0⟩ := hrel
    have hmlt := HR0.out.2.1.lt
    by_cases hlt : i < fs.length
    · have d1 : decide ((i : Int) < (fs.length : Int)) = true := decide_eq_true (by omega)
      have j0 : (0 : Int) ≤ (i : Int) := by omega
      have j1 : (i : Int) < (fs.length : Int) := by omega
      obtain ⟨gf, of_, Z, cc, ha, l0, s0, bz, hz⟩ := box_fd HF.out HR0.out.1 i hlt
      dsimp only at ha
      subst ha
      obtain ⟨nm, hnm⟩ : ∃ nm, nm = fs[i].nm := ⟨_, rfl⟩
      have cz : Z.cell? ⟨wr.heap.size, 0, none⟩ = some (.string nm) := by rw [hnm]; exact bz.cell 0
      have hbl : wr.heap.size < Z.heap.size := bz.lt
      have HZ : Hid (MapS Z m (fsN (fs.take i)).reverse) := hid_of (HR0.out.2.1.call hz.out)
      have hNl : (fsN (fs.take i)).reverse.length < 100000 := by simp [fsN]; omega
      have HNL := hid_of hNl
      have hsm := HSS.out fs[i] (List.getElem_mem hlt)
      rw [← hnm] at hsm
      have HSM := hid_of hsm
      have hNx : nm.data.toList :: (fsN (fs.take i)).reverse = (fsN (fs.take (i + 1))).reverse := by rw [hnm, fsN_snoc fs i hlt]
      have HNX := hid_of hNx
      have hw : wrap64 ((i : Int) + 1) = (i : Int) + 1 := by rw [IntWalk.wrap64_in] <;> omega
      have hB4 : ∀ w4, Z.grownBy w4 (some m) → Below w.heap.size w w4 := fun w4 h4 => (HR0.out.1.trans (hz.out.mono HR0.out.1.size)).trans (below_grown (by have := HR0.out.1.size; omega) HML.out h4)
      have HB4 := hid_of hB4
      have HC4 : Hid (∀ w4, Z.grownBy w4 (some m) → w4.cell? ⟨wr.heap.size, 0, none⟩ = some (.string nm)) := hid_of fun w4 h4 => (World.cell?_of_block (a := ⟨wr.heap.size, 0, none⟩) (h4.block _ hbl (by intro e; injection e with e; exact Nat.lt_irrefl _ (e ▸ hmlt)))).trans cz
      have HH : Hid (∀ w4, Below w.heap.size w w4 → Calls Tryd.prog 39 #[.pointer (some ⟨b, 0, none⟩), .int .i64 base, .string nm] w4 fun e w' => e = .returned (.bool (hsB T base nm.data.toList)) ∧ Below w4.heap.size w4 w') := hid_of fun w4 h4 => hasName_any w4 b c L T A M (HR.out.below h4) (HM.out.below h4) HG.out base HI.out nm hsm
      have HFI : Hid (fs[i].nm = nm) := hid_of hnm.symm
      have HLT := hid_of hlt
      clear hNl hsm hNx hB4 bz hnm hgz hroom
      cases hh : hsB T base nm.data.toList
      · have HHH := hid_of hh
        rw [hh] at HH
        clear hh
        unfold ZF at s0
        go_wp2_with (first
          | (go_at_call 39; refine (HH.out _ B4.out).mono ?_; rintro e w5 ⟨rfl, hB5⟩)
          | (at_mapUpdate; refine wpList_putS rfl _ _ _ 76 rfl 77 Tryd.underlying76 m _ rfl HZ.out HNL.out nm rfl rfl HSM.out ?_; intro w4 hM4 hg4; have B4 := hid_of (HB4.out w4 hg4); have c4 := HC4.out w4 hg4; have M4 := hid_of hM4; clear hM4 hg4))
        go_roundw
        case rel =>
          refine ⟨i + 1, by simp [hw], by omega, hid_of ⟨B4.out.trans (hB5.mono B4.out.size), by rw [← HNX.out]; exact M4.out.call hB5, ?_⟩⟩
          intro f hf
          rw [List.take_add_one, List.getElem?_eq_getElem HLT.out, List.mem_append] at hf
          rcases hf with hf | hf
          · exact HR0.out.2.2 f hf
          · simp at hf
            subst hf
            rw [HFI.out]
            exact HHH.out
        case measure => simp [ivOf, hw]; omega
      · have HHH := hid_of hh
        rw [hh] at HH
        clear hh
        unfold ZF at s0
        have htk : Hid (tkB T base fs = false) := hid_of (by
          unfold tkB
          rw [Bool.and_eq_false_iff]
          left
          rw [List.all_eq_false]
          have h1 := HFI.out
          have h2 := HHH.out
          rw [← h1] at h2
          exact ⟨fs[i]'hlt, List.getElem_mem hlt, by simp [h2]⟩)
        go_wp2_with (first
          | (go_at_call 39; refine (HH.out _ B4.out).mono ?_; rintro e w5 ⟨rfl, hB5⟩)
          | (at_mapUpdate; refine wpList_putS rfl _ _ _ 76 rfl 77 Tryd.underlying76 m _ rfl HZ.out HNL.out nm rfl rfl HSM.out ?_; intro w4 hM4 hg4; have B4 := hid_of (HB4.out w4 hg4); have c4 := HC4.out w4 hg4; have M4 := hid_of hM4; clear hM4 hg4))
        go_ret
        exact ⟨by rw [htk.out]; rfl, _, B4.out.trans (hB5.mono B4.out.size), .inl ⟨rfl, htk.out⟩⟩
    · have d1 : decide ((i : Int) < (fs.length : Int)) = false := decide_eq_false (by omega)
      have htake : fs.take i = fs := List.take_of_length_le (by omega)
      rw [htake] at HR0
      have cb3 : wr.cell? ⟨b, 3, none⟩ = some (.slice c.na.a c.na.n c.na.c) := (HR.out.bx.below HR0.out.1).cell 3
      have cb1 : wr.cell? ⟨b, 1, none⟩ = some (.slice c.ty.a c.ty.n c.ty.c) := (HR.out.bx.below HR0.out.1).cell 1
      rw [hga, HM.out.na.len] at cb3
      rw [HR.out.ty.len] at cb1
      obtain ⟨g2, off2, hga2, hgl, hcm⟩ := HM.out.na.elem (fun _ => rfl) T.length hroom
      obtain ⟨rfl, rfl⟩ : g2 = g ∧ off2 = off := by rw [hga] at hga2; injection hga2 with e; injection e with e1 e2; exact ⟨e1.symm, e2.symm⟩
      have cm0 : w.cell? ⟨g2, off2 + T.length * 1 + 0, none⟩ = some M[T.length] := hcm 0 _ rfl
      rw [Nat.add_zero, Nat.mul_one] at cm0
      have cm : wr.cell? ⟨g2, off2 + T.length, none⟩ = some M[T.length] := (HR0.out.1.cell (p := ⟨g2, off2 + T.length, none⟩) hgl).trans cm0
      have fz : wr.frozen? ⟨g2, off2 + T.length, none⟩ = false := (World.frozen?_of_block (a := ⟨g2, off2 + T.length, none⟩) (HR0.out.1.block g2 hgl)).trans hgz
      have j0 : (0 : Int) ≤ (T.length : Int) := by omega
      have j1 : (T.length : Int) < (M.length : Int) := by omega
      have HB9 : Hid (Below w.heap.size w wr.drew) := hid_of HR0.out.1.drew
      have HM9 : Hid (MapS (wr.drew.setCell ⟨g2, off2 + T.length, none⟩ (.map (some m))) m (fsN fs).reverse) := hid_of ((HR0.out.2.1.call (Below.refl _ _).drew).block (Below.heap_setCell _ _ _ _ (fun e => by have := HML.out; simp at e; omega)))
      have HT : Hid (tkB T base fs = decide (fsN fs).Nodup) := hid_of (by
        unfold tkB
        rw [List.all_eq_true.2 (fun f hf => by rw [HR0.out.2.2 f hf]; rfl), Bool.true_and])
      have hcn := cnt_nodup (fsN fs).reverse
      rw [List.length_reverse, show (fsN fs).length = fs.length by simp [fsN]] at hcn
      have hnr : (fsN fs).reverse.Nodup ↔ (fsN fs).Nodup := (List.reverse_perm _).nodup_iff
      rw [hnr] at hcn
      generalize hv : M[T.length] = v0 at *
      have HMX := hid_of (show MapS wr.drew m (fsN fs).reverse from HR0.out.2.1.call (Below.refl _ _).drew)
      cases hd : decide (fsN fs).Nodup
      · have hne : ((cntL (fsN fs).reverse : Int) == (fs.length : Int)) = false := by
          have : ¬ cntL (fsN fs).reverse = fs.length := fun e => by have := hcn.1 e; simp [this] at hd
          simp; omega
        rw [hd] at HT
        clear hd hcn hnr HR0 htake hcm cm0 hga2 hmlt hroom hgz hv
        go_wp2
        go_region
        go_wp2_with (at_len; refine wpList_lenS rfl _ 76 rfl 77 Tryd.underlying76 m _ rfl HM9.out ?_)
        go_ret
        exact ⟨by rw [HT.out]; rfl, _, HB9.out, .inr ⟨m, HML.out, HMX.out, rfl⟩⟩
      · have hne : ((cntL (fsN fs).reverse : Int) == (fs.length : Int)) = true := by
          have := hcn.2 (by simpa using hd)
          simp; omega
        rw [hd] at HT
        clear hd hcn hnr HR0 htake hcm cm0 hga2 hmlt hroom hgz hv
        go_wp2
        go_region
        go_wp2_with (at_len; refine wpList_lenS rfl _ 76 rfl 77 Tryd.underlying76 m _ rfl HM9.out ?_)
        go_ret
        exact ⟨by rw [HT.out]; rfl, _, HB9.out, .inr ⟨m, HML.out, HMX.out, rfl⟩⟩
end Go.Proofs.YtgkfnfilomjphaaDoor
