/-
  Layer 11: AddRecord: fields are put together, then a record of them is added.
-/
import Derived.Test.YtgkfnfilomjphaaDoorVar
namespace Go.Proofs.YtgkfnfilomjphaaDoor
set_option linter.unusedVariables false
set_option linter.unusedSimpArgs false
open Go.ChangeShapes Go.WideShapes Go.ChangeAt Go.RowKit
attribute [local go_sem ↓] ldY_seal stY_seal ldF_seal stF_seal mkN_seal

def stE (x : ByteArray) : Array Value := #[.string x]
def zipF (N : List ByteArray) (O : List Int) : List Fd := List.zipWith (fun n o => ⟨n, o, 0⟩) N O
theorem zipF_len {N : List ByteArray} {O : List Int} (h : N.length = O.length) : (zipF N O).length = N.length := by unfold zipF; rw [List.length_zipWith]; omega
theorem zipF_at {N : List ByteArray} {O : List Int} (i : Nat) (h1 : i < N.length) (h2 : i < O.length) (h3 : i < (zipF N O).length) : (zipF N O)[i] = ⟨N[i], O[i], 0⟩ := List.getElem_zipWith
theorem zipF_nm {N : List ByteArray} {O : List Int} (h : ∀ n ∈ N, n.size ≤ maxLen) : ∀ f ∈ zipF N O, f.nm.size ≤ maxLen := by
  intro f hf
  obtain ⟨i, hi, rfl⟩ := List.getElem_of_mem hf
  have hl := hi
  unfold zipF at hl
  rw [List.length_zipWith] at hl
  rw [zipF_at i (by omega) (by omega) hi]
  exact h _ (List.getElem_mem _)
theorem stoF {X : World} {g : Nat} {fs : List Fd} (i : Nat) (h : i < fs.length) {r : List Value} (hr : r.length = (fs.length - i) * 3) (hB : BA X g 33 (flat fdE (fs.take i) ++ r).toArray) : ∃ Y, (stT 33 ⟨g, i * 3, none⟩ (.agg (fdE fs[i]))).run Tryd.prog X = .ok () Y ∧ Hid (Tq X Y (fun k => k = g) ∧ ∃ r2 : List Value, r2.length = (fs.length - (i + 1)) * 3 ∧ BA Y g 33 (flat fdE (fs.take (i + 1)) ++ r2).toArray) := by
  have e : r = r.take 3 ++ r.drop 3 := (List.take_append_drop 3 r).symm
  rw [e, ← List.append_assoc] at hB
  have hl : (flat fdE (fs.take i)).length = i * 3 := by rw [flat_len fdE 3 (fun _ => rfl), List.length_take, Nat.min_eq_left (by omega)]
  obtain ⟨Y, y1, y2, y3⟩ := stT_in (ty := 33) _ _ _ (fdE fs[i]) hB (by rw [List.length_take, hr]; have : (fdE fs[i]).size = 3 := rfl; omega) (by kernel_rfl) (fd_one _)
  rw [hl] at y1
  refine ⟨Y, y1, y3, r.drop 3, by rw [List.length_drop, hr]; omega, ?_⟩
  rw [fs_take h, flat_snoc]
  exact y2
set_option maxRecDepth 20000 in
set_option maxHeartbeats 16000000 in
theorem addRecord_any (w : World) (hv : Vs w) (s : Sl) (L : List Tt) (h : LsR w s L) (base : Int) (sn so : Sl) (N : List ByteArray) (O : List Int) (hN : RdV w 1 sn N.length (flat stE N)) (hn : ∀ n ∈ N, n.size ≤ maxLen) (hO : RdV w 1 so O.length (flat iE O)) : Calls Tryd.prog 6 #[.slice s.a s.n s.c, .int .i64 base, .slice sn.a sn.n sn.c, .slice so.a so.n so.c] w fun e w' => Below w.heap.size w w' ∧ ((∃ er : Int, er ≠ 0 ∧ e = .returned (.tuple #[.slice none 0 0, .int .i64 0, .int .i64 er])) ∨ (N.length = O.length ∧ N.length ≤ 200 ∧ PostAr w L base (zipF N O) e w')) := by
  obtain ⟨na, nn, nc⟩ := sn
  obtain ⟨oa, on, oc⟩ := so
  have hnl := hN.len
  have hol := hO.len
  dsimp only at hnl hol
  subst hnl hol
  by_cases hlen : N.length = O.length
  rotate_left
  · have d1 : ((N.length : Int) != (O.length : Int)) = true := by simp; omega
    have d2 : (N.length != O.length) = true := by simpa using hlen
    have d3 : decide (N.length = O.length) = false := decide_eq_false hlen
    have hb : Hid (Below w.heap.size w (w.alloc (.cells #[.int .i64 base] 3))) := hid_of ((Below.refl _ _).alloc (Nat.le_refl _) _)
    clear hN hO hn hv h hlen
    go_enter Tryd.func6, Tryd.ntmps6
    go_wp2
    go_ret3
    exact ⟨hb.out, .inl ⟨110, by decide, rfl⟩⟩
  have d1 : ((N.length : Int) != (O.length : Int)) = false := by simp; omega
  have d2 : (N.length != O.length) = false := by simpa using hlen
  have d3 : decide (N.length = O.length) = true := decide_eq_true hlen
  have HLN := hid_of hlen
  by_cases h200 : 200 < N.length
  · have e1 : decide ((N.length : Int) > 200) = true := decide_eq_true (by omega)
    have e2 : decide (200 < (N.length : Int)) = true := decide_eq_true (by omega)
    have e3 : decide (200 < N.length) = true := decide_eq_true h200
    have hb : Hid (Below w.heap.size w (w.alloc (.cells #[.int .i64 base] 3))) := hid_of ((Below.refl _ _).alloc (Nat.le_refl _) _)
    clear hN hO hn hv h hlen h200
    go_enter Tryd.func6, Tryd.ntmps6
    go_wp2
    go_ret3
    exact ⟨hb.out, .inl ⟨110, by decide, rfl⟩⟩
  have e1 : decide ((N.length : Int) > 200) = false := decide_eq_false (by omega)
  have e2 : decide (200 < (N.length : Int)) = false := decide_eq_false (by omega)
  have e3 : decide (200 < N.length) = false := decide_eq_false h200
  have H200 : Hid (N.length ≤ 200) := hid_of (by omega)
  obtain ⟨iF, f1, f2, f3, f4⟩ := infoF3
  obtain ⟨C1, hC1⟩ : ∃ C, C = madeCells #[.string ⟨#[]⟩, .int .i64 0, .int .i64 0] (N.length * 3) := ⟨_, rfl⟩
  have k1 : (mkN 29 (.int .i64 (N.length : Int)) (.int .i64 (N.length : Int))).run Tryd.prog (w.alloc (.cells #[.int .i64 base] 3)) = .ok (.slice (some ⟨w.heap.size + 1, 0, none⟩) N.length N.length) ((w.alloc (.cells #[.int .i64 base] 3)).alloc (.cells C1 33)) := by
    have h := run_make (P := Tryd.prog) (w.alloc (.cells #[.int .i64 base] 3)) 29 33 iF _ Tryd.underlying29 f1 f2 .i64 .i64 (N.length : Int) (N.length : Int) (by omega) (Int.le_refl _) (by rw [f4]; omega) (by omega)
    simp only [f3, Int.toNat_natCast] at h
    rw [hC1]
    rw [show w.heap.size + 1 = (w.alloc (.cells #[.int .i64 base] 3)).heap.size by simp]
    exact h
  have z1 : C1.size = N.length * 3 := by rw [hC1]; exact size_madeCells _ _
  obtain ⟨W1, hW1⟩ : ∃ W1, W1 = ((w.alloc (.cells #[.int .i64 base] 3)).alloc (.cells C1 33)).alloc (.cells #[.slice (some ⟨w.heap.size + 1, 0, none⟩) N.length N.length] 29) := ⟨_, rfl⟩
  have b1 : Below w.heap.size w W1 := by rw [hW1]; go_grown
  have B5 : BA W1 w.heap.size 3 #[.int .i64 base] := by rw [hW1]; exact ((BA.new w _ _).below ((Below.refl _ _).alloc (Nat.le_refl _) _)).below ((Below.refl _ _).alloc (Nat.le_refl _) _)
  have BF : BA W1 (w.heap.size + 1) 33 C1 := by rw [hW1, show w.heap.size + 1 = (w.alloc (.cells #[.int .i64 base] 3)).heap.size by simp]; exact (BA.new _ _ _).below ((Below.refl _ _).alloc (Nat.le_refl _) _)
  have B11 : BA W1 (w.heap.size + 1 + 1) 29 #[.slice (some ⟨w.heap.size + 1, 0, none⟩) N.length N.length] := by rw [hW1, show w.heap.size + 1 + 1 = ((w.alloc (.cells #[.int .i64 base] 3)).alloc (.cells C1 33)).heap.size by simp]; exact BA.new _ _ _
  have hzl := zipF_len hlen
  obtain ⟨fs, hfs⟩ : ∃ fs, fs = zipF N O := ⟨_, rfl⟩
  rw [← hfs] at hzl ⊢
  have H0 : Hid (∃ r : List Value, r.length = (fs.length - 0) * 3 ∧ BA W1 (w.heap.size + 1) 33 (flat fdE (fs.take 0) ++ r).toArray ∧ BA W1 (w.heap.size + 1 + 1) 29 #[.slice (some ⟨w.heap.size + 1, 0, none⟩) N.length N.length] ∧ BA W1 w.heap.size 3 #[.int .i64 base] ∧ Below w.heap.size w W1) := hid_of ⟨C1.toList, by rw [Array.length_toList, z1, hzl]; rfl, by simpa [flat] using BF, B11, B5, b1⟩
  have HN := hid_of hN
  have HO := hid_of hO
  have HNN := hid_of hn
  have HV := hid_of hv
  have HH := hid_of h
  have HFS := hid_of hfs
  have HZL := hid_of hzl
  clear hN hO hn hv h hlen h200 f1 f2 f3 f4 hC1 z1 b1 B5 BF B11 hfs hzl
  go_enter Tryd.func6, Tryd.ntmps6
  go_wp2
  rw [← hW1]
  clear hW1 k1
  go_loopw [29] (fun p wr => ∃ i : Nat, p = .int .i64 (i : Int) ∧ i ≤ N.length ∧ Hid (∃ r : List Value, r.length = (fs.length - i) * 3 ∧ BA wr (w.heap.size + 1) 33 (flat fdE (fs.take i) ++ r).toArray ∧ BA wr (w.heap.size + 1 + 1) 29 #[.slice (some ⟨w.heap.size + 1, 0, none⟩) N.length N.length] ∧ BA wr w.heap.size 3 #[.int .i64 base] ∧ Below w.heap.size w wr)) (fun p wr => N.length - (ivOf p).toNat)
  case atStart => exact ⟨0, rfl, by omega, H0⟩
  case round =>
    obtain ⟨i, rfl, hle, HR⟩ := hrel
    obtain ⟨r, hr, hBF, hB11, hB5, hb⟩ := HR.out
    clear HR H0
    by_cases hlt : i < N.length
    · have d4 : decide ((i : Int) < (N.length : Int)) = true := decide_eq_true (by omega)
      have d5 : decide (i < N.length) = true := decide_eq_true hlt
      have j0 : (0 : Int) ≤ (i : Int) := by omega
      have j1 : (i : Int) < (N.length : Int) := by omega
      have hiO : i < O.length := by have := HLN.out; omega
      have hiF : i < fs.length := by have := HZL.out; omega
      have j2 : (i : Int) < (O.length : Int) := by omega
      obtain ⟨gn, on, hga, hgl, hcm⟩ := (HN.out.below hb).elem (fun _ => rfl) i hlt
      obtain ⟨go_, oo, hgb, hgl2, hcm2⟩ := (HO.out.below hb).elem (fun _ => rfl) i hiO
      dsimp only at hga hgb
      subst hga hgb
      have c1 : wr.cell? ⟨gn, on + i * 1 + 0, none⟩ = some (.string N[i]) := hcm 0 _ rfl
      have c2 : wr.cell? ⟨go_, oo + i * 1 + 0, none⟩ = some (.int .i64 O[i]) := hcm2 0 _ rfl
      rw [Nat.add_zero, Nat.mul_one] at c1 c2
      have c3 : wr.cell? ⟨w.heap.size + 1 + 1, 0, none⟩ = some (.slice (some ⟨w.heap.size + 1, 0, none⟩) N.length N.length) := hB11.cell 0
      obtain ⟨Y, yr, HY⟩ := stoF (X := wr.drew) i hiF hr hBF
      have e4 : fs[i] = ⟨N[i], O[i], 0⟩ := by
        have := zipF_at (N := N) (O := O) i hlt hiO (by rw [← HFS.out]; exact hiF)
        simp only [← HFS.out] at this
        exact this
      rw [e4] at yr
      simp only [fdE] at yr
      have u1 : w.heap.size + 1 + 1 < wr.heap.size := hB11.lt
      have HX := hid_of (And.intro hB11 (And.intro hB5 hb))
      have HLT := hid_of hlt
      have hwi : wrap64 ((i : Int) + 1) = (i : Int) + 1 := by rw [IntWalk.wrap64_in] <;> (have := H200.out; omega)
      have HME : Hid (N.length - ((i : Int) + 1).toNat < N.length - ((i : Int)).toNat) := hid_of (by clear hwi; omega)
      generalize N[i] = ni at *
      generalize O[i] = oi at *
      clear hr hBF hB11 hB5 hb hcm hcm2 hgl hgl2 e4
      go_wp2_with fail
      go_region
      go_wp2_with fail
      go_roundw
      case rel =>
        obtain ⟨t, r2, h1, h2⟩ := HY.out
        have ht : Tq wr Y (fun k => k = w.heap.size + 1) := ⟨t.os, t.tape, t.output, t.size, t.blk⟩
        exact ⟨i + 1, by simp [hwi], Nat.succ_le_of_lt HLT.out, r2, h1, h2, HX.out.1.tq ht (by omega), HX.out.2.1.tq ht (by omega), below_tqH HX.out.2.2 ht (by intro k hk e; omega)⟩
      case measure => exact vmeas HME.out hwi
    · have d4 : decide ((i : Int) < (N.length : Int)) = false := decide_eq_false (by omega)
      have d5 : decide (i < N.length) = false := decide_eq_false hlt
      obtain rfl : i = N.length := by omega
      have hr0 : r = [] := List.length_eq_zero_iff.1 (by rw [hr, HZL.out]; simp)
      subst hr0
      rw [List.append_nil, List.take_of_length_le (by rw [HZL.out]; exact Nat.le_refl _)] at hBF
      have RF : RdV wr 3 ⟨some ⟨w.heap.size + 1, 0, none⟩, N.length, N.length⟩ fs.length (flat fdE fs) := ⟨HZL.out.symm, flat_len fdE 3 (fun _ => rfl) _, by rw [HZL.out]; have := H200.out; omega, .inr ⟨w.heap.size + 1, 0, rfl, hBF.lt, fun j u hu => by
        rw [Nat.zero_add, blk_cell hBF]
        simpa using hu⟩⟩
      have AD := hid_of (addR_any wr (HV.out.call hb) s L (HH.out.call hb) base ⟨some ⟨w.heap.size + 1, 0, none⟩, N.length, N.length⟩ fs RF (by rw [HFS.out]; exact zipF_nm HNN.out) w.heap.size (w.heap.size + 1 + 1) (hB5.cell 0) (hB11.cell 0))
      have HB := hid_of hb
      clear hr hBF hB11 hB5 hb RF hle hlt
      go_wp2_with (go_at_call 12; refine AD.out.mono ?_; rintro e w2 ⟨hB2, hP⟩; rcases hP with ⟨er, her, rfl⟩ | ⟨p1, p2, s2, T, sl, m, p3, p4, rfl, p5⟩)
      all_goals first
        | (go_ret3; exact ⟨HB.out.trans (hB2.mono HB.out.size), .inl ⟨er, her, rfl⟩⟩)
        | (go_ret3; exact ⟨HB.out.trans (hB2.mono HB.out.size), .inr ⟨HLN.out, H200.out, HB.out.trans (hB2.mono HB.out.size), .inr ⟨p1, p2, s2, T, sl, m, p3, p4, rfl, p5⟩⟩⟩)
end Go.Proofs.YtgkfnfilomjphaaDoor
