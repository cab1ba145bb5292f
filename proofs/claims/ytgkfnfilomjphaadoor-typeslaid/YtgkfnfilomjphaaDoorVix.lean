/-
  Layer 11: the first field of a name; at what places a type's things stand.
-/
import Derived.Test.YtgkfnfilomjphaaDoorVad
namespace Go.Proofs.YtgkfnfilomjphaaDoor
set_option linter.unusedVariables false
set_option linter.unusedSimpArgs false
open Go.ChangeShapes Go.WideShapes Go.ChangeAt Go.RowKit
attribute [local go_sem ↓] ldY_seal stY_seal ldF_seal stF_seal

def nmB (nm : ByteArray) (f : Fd) : Bool := f.nm.toList == nm.toList
set_option maxHeartbeats 4000000 in
theorem fld1_any (w : World) (f : Fd) (nm : ByteArray) (pn : Nat) (cn : w.cell? ⟨pn, 0, none⟩ = some (.string nm)) : Calls Tryd.prog 17 #[.agg (fdE f), .pointer (some ⟨pn, 0, none⟩)] w fun e w' => e = .returned (.bool (nmB nm f)) ∧ Below w.heap.size w w' := by
  have hb : Below w.heap.size w (w.alloc (.cells (fdE f) 33)) := (Below.refl _ _).alloc (Nat.le_refl _) _
  have lp := World.block_lt_of_cell? w ⟨pn, 0, none⟩ cn
  have c1 : (w.alloc (.cells (fdE f) 33)).cell? ⟨pn, 0, none⟩ = some (.string nm) := (hb.cell (p := ⟨pn, 0, none⟩) lp).trans cn
  have c2 : (w.alloc (.cells (fdE f) 33)).cell? ⟨w.heap.size, 0, none⟩ = some (.string f.nm) := (BA.new w 33 (fdE f)).cell 0
  have HB := hid_of hb
  obtain ⟨fn, ft, fo⟩ := f
  unfold nmB
  dsimp only at c2 ⊢
  simp only [fdE] at c1 c2 HB ⊢
  clear hb
  go_enter Tryd.func17, Tryd.ntmps17
  go_wp2
  go_ret
  exact ⟨rfl, HB.out⟩
/-- What IndexFunc answers. -/
def PostIx (w : World) (fs : List Fd) (nm : ByteArray) (e : Ending) (w' : World) : Prop := ∃ k : Int, e = .returned (.int .i64 k) ∧ ((k = -1 ∧ fs.find? (nmB nm) = none) ∨ ∃ n : Nat, k = (n : Int) ∧ ∃ hn : n < fs.length, fs.find? (nmB nm) = some fs[n]) ∧ Below w.heap.size w w'
set_option maxHeartbeats 8000000 in
theorem ix_any (w : World) (s : Sl) (fs : List Fd) (hs : RdV w 3 s fs.length (flat fdE fs)) (nm : ByteArray) (pn : Nat) (cn : w.cell? ⟨pn, 0, none⟩ = some (.string nm)) : Calls Tryd.prog 19 #[.slice s.a s.n s.c, .func (.func 17) #[] #[.pointer (some ⟨pn, 0, none⟩)]] w (PostIx w fs nm) := by
  obtain ⟨sa, sn, sc⟩ := s
  have hsl := hs.len
  have hmo := hs.most
  dsimp only at hsl
  subst hsl
  have lp := World.block_lt_of_cell? w ⟨pn, 0, none⟩ cn
  have FC : Hid (∀ X f, Below w.heap.size w X → Calls Tryd.prog 17 #[.agg (fdE f), .pointer (some ⟨pn, 0, none⟩)] X fun e w' => e = .returned (.bool (nmB nm f)) ∧ Below X.heap.size X w') := hid_of fun X f hX => fld1_any X f nm pn ((hX.cell (p := ⟨pn, 0, none⟩) lp).trans cn)
  have HS := hid_of hs
  have HMO := hid_of hmo
  clear hs cn lp hmo
  go_enter Tryd.func19, Tryd.ntmps19
  go_wp2
  go_loopw [8] (fun p wr => ∃ i : Nat, p = .int .i64 (i : Int) ∧ i ≤ fs.length ∧ Hid (Below w.heap.size w wr ∧ ∀ f ∈ fs.take i, nmB nm f = false)) (fun p wr => fs.length - (ivOf p).toNat)
  case atStart => exact ⟨0, rfl, by omega, Below.refl _ _, by simp⟩
  case round =>
    obtain ⟨i, rfl, hle, HR⟩ := hrel
    by_cases hlt : i < fs.length
    · have d1 : decide ((i : Int) < (fs.length : Int)) = true := decide_eq_true (by omega)
      have d2 : decide (i < fs.length) = true := decide_eq_true hlt
      have j0 : (0 : Int) ≤ (i : Int) := by omega
      have j1 : (i : Int) < (fs.length : Int) := by omega
      obtain ⟨g, off, hga, hgl, hcm⟩ := (HS.out.below HR.out.1).elem (fun _ => rfl) i hlt
      dsimp only at hga
      subst hga
      have l1 := ldT_mid (ty := 33) hcm Tryd.underlying33 rfl (by kernel_rfl)
      have F1 := hid_of (FC.out wr fs[i] HR.out.1)
      obtain ⟨ft, hft⟩ : ∃ ft, ft = fs[i] := ⟨_, rfl⟩
      rw [← hft] at F1 l1
      have HFT := hid_of hft
      have HLT := hid_of hlt
      have hwi : wrap64 ((i : Int) + 1) = (i : Int) + 1 := by rw [IntWalk.wrap64_in] <;> (have := HMO.out; omega)
      have HME : Hid (fs.length - ((i : Int) + 1).toNat < fs.length - ((i : Int)).toNat) := hid_of (by clear hwi; omega)
      clear hcm hgl hft
      cases hb : nmB nm ft
      · rw [hb] at F1
        have HBB := hid_of hb
        clear hb
        go_wp2_with (go_at_call 17; refine F1.out.mono ?_; rintro e w2 ⟨rfl, hB⟩; have B2 := hid_of hB; clear hB)
        go_roundw
        case rel =>
          refine ⟨i + 1, by simp [hwi], Nat.succ_le_of_lt HLT.out, HR.out.1.trans (B2.out.mono HR.out.1.size), fun f hf => ?_⟩
          rw [fs_take HLT.out, List.mem_append] at hf
          rcases hf with hf | hf
          · exact HR.out.2 f hf
          · rw [List.mem_singleton] at hf
            rw [hf, ← HFT.out]
            exact HBB.out
        case measure => exact vmeas HME.out hwi
      · rw [hb] at F1
        have HBB := hid_of hb
        clear hb
        go_wp2_with (go_at_call 17; refine F1.out.mono ?_; rintro e w2 ⟨rfl, hB⟩; have B2 := hid_of hB; clear hB)
        go_ret
        refine ⟨(i : Int), rfl, .inr ⟨i, rfl, HLT.out, ?_⟩, HR.out.1.trans (B2.out.mono HR.out.1.size)⟩
        have e1 : fs = fs.take i ++ (fs[i]'HLT.out) :: fs.drop (i + 1) := by rw [← List.drop_eq_getElem_cons HLT.out, List.take_append_drop]
        have e2 : (fs.take i).find? (nmB nm) = none := List.find?_eq_none.2 fun f hf => by rw [HR.out.2 f hf]; simp
        have e3 : nmB nm (fs[i]'HLT.out) = true := by rw [← HFT.out]; exact HBB.out
        have e4 : (fs.take i ++ (fs[i]'HLT.out) :: fs.drop (i + 1)).find? (nmB nm) = some (fs[i]'HLT.out) := by rw [List.find?_append, e2, List.find?_cons, e3]; rfl
        rwa [← e1] at e4
    · have d1 : decide ((i : Int) < (fs.length : Int)) = false := decide_eq_false (by omega)
      have d2 : decide (i < fs.length) = false := decide_eq_false hlt
      have HN : Hid (fs.find? (nmB nm) = none) := hid_of (List.find?_eq_none.2 fun f hf => by
        have := HR.out.2 f (by rw [List.take_of_length_le (by omega)]; exact hf)
        rw [this]; simp)
      have HB := hid_of HR.out.1
      clear hle hlt HR
      go_wp2
      go_ret
      exact ⟨-1, rfl, .inl ⟨rfl, HN.out⟩, HB.out⟩
set_option maxHeartbeats 4000000 in
theorem align_any (w : World) (hv : Vs w) (s : Sl) (L : List Tt) (h : LsR w s L) (hr : readB L = true) (t : Int) (ht : hasB L t = true) : Calls Tryd.prog 8 #[.slice s.a s.n s.c, .int .i64 t] w fun e w' => e = .returned (.int .i64 (alD (alL L) t)) ∧ Below w.heap.size w w' := by
  have RD := hid_of (read_ls w hv s L h)
  unfold PostRd at RD
  rw [hr] at RD
  have i0 : 0 ≤ t ∧ t < (L.length : Int) := by simpa [hasB] using ht
  obtain ⟨n, rfl⟩ : ∃ n : Nat, t = (n : Int) := ⟨t.toNat, by omega⟩
  have HT := hid_of (And.intro ht i0)
  clear hv h hr ht i0
  go_enter Tryd.func8, Tryd.ntmps8
  go_wp2_with (first
    | (have hx := HO; clear hx; go_at_call 20; refine (has_any _ b c L T (alL T) HO.out.1.rw _).mono ?_; rintro e w2 ⟨rfl, hw2⟩; rw [hw2, HO.out.2.1, HT.out.1]; clear hw2)
    | (go_at_call 15; refine RD.out.mono ?_; rintro e w1 ⟨b, c, T, M, g1, rfl, hli, hO, hT⟩; have HO := hid_of (And.intro hO (And.intro (fun i => hasB_eq (hO.fnd.all (hT rfl)).2 i) (show alL T = alL L by rw [← alL_ct T, (hO.fnd.all (hT rfl)).2, alL_ct]))); have hnl : n < (alL L).length := (by rw [alL_len]; have := HT.out; omega); have hrw := hO.rw.al; rw [show alL T = alL L from HO.out.2.2] at hrw; have ca0 : w1.cell? ⟨b, 2, none⟩ = some (.slice c.al.a c.al.n c.al.c) := hO.bx.cell 2; rw [hrw.len] at ca0; obtain ⟨g, off, hga, hgl, hcm⟩ := hrw.elem (fun _ => rfl) n hnl; have ce : w1.cell? ⟨g, off + n * 1 + 0, none⟩ = some (.int .i64 (alL L)[n]) := hcm 0 _ rfl; rw [Nat.add_zero, Nat.mul_one] at ce; rw [hga] at ca0; have j0 : (0 : Int) ≤ (n : Int) := (by omega); have j1 : (n : Int) < ((alL L).length : Int) := (by omega); have HD := hid_of (alD_at hnl); generalize (alL L)[n] = av at *; clear hO hT hli hrw hcm hgl hga hnl))
  go_ret
  exact ⟨by rw [HD.out]; rfl, HO.out.1.be⟩
end Go.Proofs.YtgkfnfilomjphaaDoor
