/-
  Layer 7: what the reader reads as an object.
-/
import Derived.Test.YtepgifapepaheaaRst
namespace Go.Proofs.Ytepgifapepaheaa
set_option linter.unusedVariables false
set_option linter.unusedSimpArgs false
open Go.ChangeShapes Go.WideShapes Go.ChangeAt Go.RowKit
attribute [local go_sem ↓] loadO_seal storeO_seal

def objS (f : Nat → Int) (len : Nat) (s : St) : Ob × St :=
  let x0 := textS f len 20 s
  let x1 := wordS f len x0.2
  let x2 := rowS f len 16 (impS f len) x1.2
  let x3 := rowS f len 65536 (wordS f len) x2.2
  let x4 := rowS f len 100 (prcS f len) x3.2
  let x5 := numS f len 4294967295 x4.2
  let x6 := rowS f len 200 (numS f len 4294967295) x5.2
  let x7 := rowS f len 200 (numS f len 4294967295) x6.2
  let x8 := rowS f len 200 (textS f len 200) x7.2
  let x9 := rowS f len 200 (dscS f len) x8.2
  let x10 := rowS f len 65536 (fixS f len) x9.2
  (⟨x0.1, x1.1, x2.1, x3.1, x4.1.map (·.1), x4.1.map (·.2.1), x4.1.map (·.2.2), x5.1, x6.1, x7.1, x8.1, x9.1, x10.1⟩, x10.2)
theorem hid_of {p : Prop} (h : p) : Hid p := h
def PostO (w : World) (b len cap : Nat) (a : Option Addr) (f : Nat → Int) (F : Ob × St) (e : Ending) (w' : World) : Prop := ∃ c o, e = .returned (.agg (Oc.cells c)) ∧ ObAt w' (w.heap.size + 4) c o ∧ (F.2.st = false → o = F.1) ∧ Rdr w' b a len cap f F.2 ∧ w.grownBy w' (some b)
theorem numS_st {f : Nat → Int} {len : Nat} {most : Int} {s : St} (h : (numS f len most s).2.st = false) : s.st = false := by
  unfold numS at h
  cases hu : uintR f len s.p with
  | none => rw [hu] at h; cases h
  | some r =>
    obtain ⟨n, i⟩ := r
    rw [hu] at h
    simp only at h
    split at h
    · rename_i hc; simp only [Bool.and_eq_true, Bool.not_eq_true'] at hc; exact hc.1
    · cases h
theorem rowS_st {α : Type} {f : Nat → Int} {len : Nat} {most : Int} {rd : St → α × St} {s : St} (h : (rowS f len most rd s).2.st = false) : s.st = false := by
  unfold rowS at h
  have key : ∀ n acc t, (loopS rd n acc t).2.st = false → n = 0 → t.st = false := fun n acc t h0 hn => by subst hn; exact h0
  cases hs : s.st
  · rfl
  · exfalso
    have h1 : (numS f len most s) = (0, ⟨s.p, true⟩) := by
      unfold numS
      cases hu : uintR f len s.p with
      | none => rfl
      | some r => obtain ⟨n, i⟩ := r; simp [hs]
    rw [h1] at h
    cases h
set_option maxHeartbeats 16000000 in
set_option maxRecDepth 20000 in
theorem object_of (w : World) (b len cap : Nat) (a : Option Addr) (f : Nat → Int) (s : St) (h0 : Rdr w b a len cap f s) :
    Calls Try.prog 12 #[.pointer (some ⟨b, 0, none⟩)] w (PostO w b len cap a f (objS f len s)) := by
  have S0 : Hid (Os w (W5 w b) b len cap a f Oc.zero ⟨⟨#[]⟩, 0, [], [], [], [], [], 0, [], [], [], [], []⟩ s) := W5_os w b len cap a f s h0
  have bl := h0.bl
  have HS : Hid (∀ ad, a = some ad → ad.block < w.heap.size) := fun ad he => (h0.ap ad he).2
  clear h0
  unfold objS
  simp only
  obtain ⟨x0, hx0⟩ : ∃ x, textS f len 20 s = x := ⟨_, rfl⟩
  rw [hx0]
  have C0 : Hid (∀ X c o, Os w X b len cap a f c o s → Calls Try.prog 29 #[.pointer (some ⟨b, 0, none⟩), .int .i64 20] X (PostR X b a len cap f (.string x0.1) x0.2)) := fun X c o h => by
    have := text_of X b len cap a f s h.rd 20 (by omega) (by omega)
    rw [hx0] at this
    exact this
  obtain ⟨x1, hx1⟩ : ∃ x, wordS f len x0.2 = x := ⟨_, rfl⟩
  rw [hx1]
  have C1 : Hid (∀ X c o, Os w X b len cap a f c o x0.2 → Calls Try.prog 30 #[.pointer (some ⟨b, 0, none⟩)] X (PostR X b a len cap f (.int .u32 x1.1) x1.2)) := fun X c o h => by
    have := word_of X b len cap a f x0.2 h.rd
    rw [hx1] at this
    exact this
  obtain ⟨x2, hx2⟩ : ∃ x, rowS f len 16 (impS f len) x1.2 = x := ⟨_, rfl⟩
  rw [hx2]
  have C2 : Hid (∀ X c o, Os w X b len cap a f c o x1.2 → Calls Try.prog 31 #[.pointer (some ⟨b, 0, none⟩), .int .u32 16, .func (.func 32) #[] #[.pointer (some ⟨w.heap.size, 0, none⟩)]] X (PostW X b a len cap f 59 2 (flat iEnc x2.1) x2.1.length x2.2)) := fun X c o h => by
    have := row_imp (impS f len) w.heap.size X b len cap a f x1.2 h.rd 16 (by omega) (by omega) (fun Y sy hY hg => cl_imp Y b len cap a f sy hY w.heap.size (h.by_.gb hg).bx)
    rw [hx2] at this
    exact this
  obtain ⟨x3, hx3⟩ : ∃ x, rowS f len 65536 (wordS f len) x2.2 = x := ⟨_, rfl⟩
  rw [hx3]
  have C3 : Hid (∀ X c o, Os w X b len cap a f c o x2.2 → Calls Try.prog 33 #[.pointer (some ⟨b, 0, none⟩), .int .u32 65536, .func (.func 30) #[.pointer (some ⟨b, 0, none⟩)] #[]] X (PostW X b a len cap f 24 1 (x3.1.map (Value.int .u32)) x3.1.length x3.2)) := fun X c o h => by
    have := row_u32 (wordS f len) X b len cap a f x2.2 h.rd 65536 (by omega) (by omega) (fun Y sy hY hg => word_of Y b len cap a f sy hY)
    rw [hx3] at this
    exact this
  obtain ⟨x4, hx4⟩ : ∃ x, rowS f len 100 (prcS f len) x3.2 = x := ⟨_, rfl⟩
  rw [hx4]
  have C4 : Hid (∀ X c o, Os w X b len cap a f c o x3.2 → c.na = ⟨none, 0, 0⟩ → c.ex = ⟨none, 0, 0⟩ → Calls Try.prog 34 #[.pointer (some ⟨b, 0, none⟩), .int .u32 100, .func (.func 35) #[] #[.pointer (some ⟨w.heap.size + 1 + 1 + 1, 0, none⟩), .pointer (some ⟨w.heap.size + 1 + 1, 0, none⟩), .pointer (some ⟨w.heap.size, 0, none⟩)]] X (PostP X b len cap a f (w.heap.size + 3) w.heap.size (w.heap.size + 2) c x4)) := fun X c o h hna hex => by
    have := row_prc X b len cap a f x3.2 h.rd (w.heap.size + 3) w.heap.size (w.heap.size + 2) c h.by_ h.lies hna hex (by omega) (by omega) (by omega) (fun ad he => by have := HS.out ad he; omega)
    rw [hx4] at this
    exact this
  obtain ⟨x5, hx5⟩ : ∃ x, numS f len 4294967295 x4.2 = x := ⟨_, rfl⟩
  rw [hx5]
  have C5 : Hid (∀ X c o, Os w X b len cap a f c o x4.2 → Calls Try.prog 27 #[.pointer (some ⟨w.heap.size, 0, none⟩)] X (PostR X b a len cap f (.int .i64 x5.1) x5.2)) := fun X c o h => by
    have := cl_num X b len cap a f x4.2 h.rd w.heap.size h.by_.bx
    rw [hx5] at this
    exact this
  obtain ⟨x6, hx6⟩ : ∃ x, rowS f len 200 (numS f len 4294967295) x5.2 = x := ⟨_, rfl⟩
  rw [hx6]
  have C6 : Hid (∀ X c o, Os w X b len cap a f c o x5.2 → Calls Try.prog 34 #[.pointer (some ⟨b, 0, none⟩), .int .u32 200, .func (.func 27) #[] #[.pointer (some ⟨w.heap.size, 0, none⟩)]] X (PostW X b a len cap f 3 1 (x6.1.map (Value.int .i64)) x6.1.length x6.2)) := fun X c o h => by
    have := row_int (numS f len 4294967295) w.heap.size X b len cap a f x5.2 h.rd 200 (by omega) (by omega) (fun Y sy hY hg => cl_num Y b len cap a f sy hY w.heap.size (h.by_.gb hg).bx)
    rw [hx6] at this
    exact this
  obtain ⟨x7, hx7⟩ : ∃ x, rowS f len 200 (numS f len 4294967295) x6.2 = x := ⟨_, rfl⟩
  rw [hx7]
  have C7 : Hid (∀ X c o, Os w X b len cap a f c o x6.2 → Calls Try.prog 34 #[.pointer (some ⟨b, 0, none⟩), .int .u32 200, .func (.func 27) #[] #[.pointer (some ⟨w.heap.size, 0, none⟩)]] X (PostW X b a len cap f 3 1 (x7.1.map (Value.int .i64)) x7.1.length x7.2)) := fun X c o h => by
    have := row_int (numS f len 4294967295) w.heap.size X b len cap a f x6.2 h.rd 200 (by omega) (by omega) (fun Y sy hY hg => cl_num Y b len cap a f sy hY w.heap.size (h.by_.gb hg).bx)
    rw [hx7] at this
    exact this
  obtain ⟨x8, hx8⟩ : ∃ x, rowS f len 200 (textS f len 200) x7.2 = x := ⟨_, rfl⟩
  rw [hx8]
  have C8 : Hid (∀ X c o, Os w X b len cap a f c o x7.2 → Calls Try.prog 37 #[.pointer (some ⟨b, 0, none⟩), .int .u32 200, .func (.func 38) #[] #[.pointer (some ⟨w.heap.size, 0, none⟩)]] X (PostW X b a len cap f 9 1 (x8.1.map Value.string) x8.1.length x8.2)) := fun X c o h => by
    have := row_str (textS f len 200) w.heap.size X b len cap a f x7.2 h.rd 200 (by omega) (by omega) (fun Y sy hY hg => cl_str Y b len cap a f sy hY w.heap.size (h.by_.gb hg).bx)
    rw [hx8] at this
    exact this
  obtain ⟨x9, hx9⟩ : ∃ x, rowS f len 200 (dscS f len) x8.2 = x := ⟨_, rfl⟩
  rw [hx9]
  have C9 : Hid (∀ X c o, Os w X b len cap a f c o x8.2 → Calls Try.prog 39 #[.pointer (some ⟨b, 0, none⟩), .int .u32 200, .func (.func 40) #[] #[.pointer (some ⟨w.heap.size + 1 + 1 + 1, 0, none⟩), .pointer (some ⟨w.heap.size, 0, none⟩)]] X (PostDs X b a len cap f x9.1 x9.2)) := fun X c o h => by
    have := row_dsc (dscS f len) (w.heap.size + 3) w.heap.size X b len cap a f x8.2 h.rd 200 (by omega) (by omega) (fun Y sy hY hg => cl_dsc Y b len cap a f sy hY (w.heap.size + 3) w.heap.size (h.by_.gb hg))
    rw [hx9] at this
    exact this
  obtain ⟨x10, hx10⟩ : ∃ x, rowS f len 65536 (fixS f len) x9.2 = x := ⟨_, rfl⟩
  rw [hx10]
  have C10 : Hid (∀ X c o, Os w X b len cap a f c o x9.2 → Calls Try.prog 41 #[.pointer (some ⟨b, 0, none⟩), .int .u32 65536, .func (.func 42) #[] #[.pointer (some ⟨w.heap.size + 1 + 1 + 1, 0, none⟩), .pointer (some ⟨w.heap.size, 0, none⟩)]] X (PostW X b a len cap f 56 4 (flat xEnc x10.1) x10.1.length x10.2)) := fun X c o h => by
    have := row_fix (fixS f len) (w.heap.size + 3) w.heap.size X b len cap a f x9.2 h.rd 65536 (by omega) (by omega) (fun Y sy hY hg => cl_fix Y b len cap a f sy hY (w.heap.size + 3) w.heap.size (h.by_.gb hg))
    rw [hx10] at this
    exact this
  have hst4 : x10.2.st = false → x4.2.st = false := fun e => numS_st (by rw [hx5]; exact rowS_st (by rw [hx6]; exact rowS_st (by rw [hx7]; exact rowS_st (by rw [hx8]; exact rowS_st (by rw [hx9]; exact rowS_st (by rw [hx10]; exact e))))))
  have HST : Hid (x10.2.st = false → x4.2.st = false) := hst4
  clear hx0 hx1 hx2 hx3 hx4 hx5 hx6 hx7 hx8 hx9 hx10 hst4
  have hs4 : (store ⟨w.heap.size + 1 + 1 + 1, 0, none⟩ (.func (.func 27) #[] #[.pointer (some ⟨w.heap.size, 0, none⟩)])).run Try.prog (W4 w b) = .ok () (W5 w b) := by
    have n4 : (W4 w b).cell? ⟨w.heap.size + 1 + 1 + 1, 0, none⟩ = some .nilFunc := blk_cell (W4_3 w b) 0
    have z4 : (W4 w b).frozen? ⟨w.heap.size + 1 + 1 + 1, 0, none⟩ = false := blk_fz (W4_3 w b) 0
    rw [run_store _ _ _ _ _ rfl, n4, z4]; rfl
  simp only [W4, zeroO] at hs4
  have b0 : (W5 w b).cell? ⟨w.heap.size, 0, none⟩ = some (.pointer (some ⟨b, 0, none⟩)) := S0.out.by_.2.1
  have n0 : (W5 w b).cell? ⟨w.heap.size + 1 + 1 + 1, 0, none⟩ = some (.func (.func 27) #[] #[.pointer (some ⟨w.heap.size, 0, none⟩)]) := S0.out.by_.1
  have N0 : Hid (Oc.zero.na = ⟨none, 0, 0⟩ ∧ Oc.zero.ex = ⟨none, 0, 0⟩) := ⟨rfl, rfl⟩
  go_enter Try.func12, Try.ntmps12
  go_upto_region 3 with fail
  generalize W5 w b = W0 at *
  clear hs4
  generalize Oc.zero = c0 at S0 N0
  go_wp2_with (first
    | (go_at_call 41; have hx := S10; clear hx; refine (C10.out _ _ _ S10.out).mono ?_; rintro e w11 ⟨v, rfl, ho, hr, hg⟩; obtain ⟨va10, vn10, vc10, rfl⟩ := own_slice ho; have hk := blk_keep S10.out.lies hg (by omega); have k10 : w11.cell? ⟨w.heap.size + 1 + 1, 12, none⟩ = some (.slice c10.fx.a c10.fx.n c10.fx.c) := blk_cell hk 12; have z10 : w11.frozen? ⟨w.heap.size + 1 + 1, 12, none⟩ = false := blk_fz hk 12; obtain ⟨c11, hS, hn1, hn2⟩ := S10.out.fx bl HS.out hr hg x10.1 ho; have b11 : (w11.setCell ⟨w.heap.size + 1 + 1, 12, none⟩ (.slice va10 vn10 vc10)).cell? ⟨w.heap.size, 0, none⟩ = some (.pointer (some ⟨b, 0, none⟩)) := hS.by_.2.1; have n11 : (w11.setCell ⟨w.heap.size + 1 + 1, 12, none⟩ (.slice va10 vn10 vc10)).cell? ⟨w.heap.size + 1 + 1 + 1, 0, none⟩ = some (.func (.func 27) #[] #[.pointer (some ⟨w.heap.size, 0, none⟩)]) := hS.by_.1; have S11 := hid_of hS; have hld : (loadO ⟨w.heap.size + 1 + 1, 0, none⟩).run Try.prog (w11.setCell ⟨w.heap.size + 1 + 1, 12, none⟩ (.slice va10 vn10 vc10)) = .ok (.agg c11.cells) (w11.setCell ⟨w.heap.size + 1 + 1, 12, none⟩ (.slice va10 vn10 vc10)) := loadO_run hS.lies; obtain ⟨wz, hst, hO, hT⟩ := storeO_run hS.res c11; have hst2 : (storeO ⟨w.heap.size + 1, 0, none⟩ (.agg c11.cells)).run Try.prog (w11.setCell ⟨w.heap.size + 1 + 1, 12, none⟩ (.slice va10 vn10 vc10)) = .ok () wz := hst; have HZ := hid_of (And.intro hO hT); clear hst hO hT; clear hS hn1 hn2 hk S10 b10 n10)
    | (go_at_call 39; have hx := S9; clear hx; refine (C9.out _ _ _ S9.out).mono ?_; rintro e w10 ⟨v, l9, rfl, hl9, ho, hd9, hr, hg⟩; obtain ⟨va9, vn9, vc9, rfl⟩ := own_slice ho; have hk := blk_keep S9.out.lies hg (by omega); have k9 : w10.cell? ⟨w.heap.size + 1 + 1, 11, none⟩ = some (.slice c9.ds.a c9.ds.n c9.ds.c) := blk_cell hk 11; have z9 : w10.frozen? ⟨w.heap.size + 1 + 1, 11, none⟩ = false := blk_fz hk 11; obtain ⟨c10, hS, hn1, hn2⟩ := S9.out.ds bl HS.out hr hg x9.1 l9 hl9 ho hd9; have b10 : (w10.setCell ⟨w.heap.size + 1 + 1, 11, none⟩ (.slice va9 vn9 vc9)).cell? ⟨w.heap.size, 0, none⟩ = some (.pointer (some ⟨b, 0, none⟩)) := hS.by_.2.1; have n10 : (w10.setCell ⟨w.heap.size + 1 + 1, 11, none⟩ (.slice va9 vn9 vc9)).cell? ⟨w.heap.size + 1 + 1 + 1, 0, none⟩ = some (.func (.func 27) #[] #[.pointer (some ⟨w.heap.size, 0, none⟩)]) := hS.by_.1; have S10 := hid_of hS; clear hS hn1 hn2 hk S9 b9 n9)
    | (go_at_call 37; have hx := S8; clear hx; refine (C8.out _ _ _ S8.out).mono ?_; rintro e w9 ⟨v, rfl, ho, hr, hg⟩; obtain ⟨va8, vn8, vc8, rfl⟩ := own_slice ho; have hk := blk_keep S8.out.lies hg (by omega); have k8 : w9.cell? ⟨w.heap.size + 1 + 1, 10, none⟩ = some (.slice c8.st.a c8.st.n c8.st.c) := blk_cell hk 10; have z8 : w9.frozen? ⟨w.heap.size + 1 + 1, 10, none⟩ = false := blk_fz hk 10; obtain ⟨c9, hS, hn1, hn2⟩ := S8.out.st bl HS.out hr hg x8.1 ho; have b9 : (w9.setCell ⟨w.heap.size + 1 + 1, 10, none⟩ (.slice va8 vn8 vc8)).cell? ⟨w.heap.size, 0, none⟩ = some (.pointer (some ⟨b, 0, none⟩)) := hS.by_.2.1; have n9 : (w9.setCell ⟨w.heap.size + 1 + 1, 10, none⟩ (.slice va8 vn8 vc8)).cell? ⟨w.heap.size + 1 + 1 + 1, 0, none⟩ = some (.func (.func 27) #[] #[.pointer (some ⟨w.heap.size, 0, none⟩)]) := hS.by_.1; have S9 := hid_of hS; clear hS hn1 hn2 hk S8 b8 n8)
    | (go_at_call 34; have hx := S7; clear hx; refine (C7.out _ _ _ S7.out).mono ?_; rintro e w8 ⟨v, rfl, ho, hr, hg⟩; obtain ⟨va7, vn7, vc7, rfl⟩ := own_slice ho; have hk := blk_keep S7.out.lies hg (by omega); have k7 : w8.cell? ⟨w.heap.size + 1 + 1, 9, none⟩ = some (.slice c7.sh.a c7.sh.n c7.sh.c) := blk_cell hk 9; have z7 : w8.frozen? ⟨w.heap.size + 1 + 1, 9, none⟩ = false := blk_fz hk 9; obtain ⟨c8, hS, hn1, hn2⟩ := S7.out.sh bl HS.out hr hg x7.1 ho; have b8 : (w8.setCell ⟨w.heap.size + 1 + 1, 9, none⟩ (.slice va7 vn7 vc7)).cell? ⟨w.heap.size, 0, none⟩ = some (.pointer (some ⟨b, 0, none⟩)) := hS.by_.2.1; have n8 : (w8.setCell ⟨w.heap.size + 1 + 1, 9, none⟩ (.slice va7 vn7 vc7)).cell? ⟨w.heap.size + 1 + 1 + 1, 0, none⟩ = some (.func (.func 27) #[] #[.pointer (some ⟨w.heap.size, 0, none⟩)]) := hS.by_.1; have S8 := hid_of hS; clear hS hn1 hn2 hk S7 b7 n7)
    | (go_at_call 34; have hx := S6; clear hx; refine (C6.out _ _ _ S6.out).mono ?_; rintro e w7 ⟨v, rfl, ho, hr, hg⟩; obtain ⟨va6, vn6, vc6, rfl⟩ := own_slice ho; have hk := blk_keep S6.out.lies hg (by omega); have k6 : w7.cell? ⟨w.heap.size + 1 + 1, 8, none⟩ = some (.slice c6.va.a c6.va.n c6.va.c) := blk_cell hk 8; have z6 : w7.frozen? ⟨w.heap.size + 1 + 1, 8, none⟩ = false := blk_fz hk 8; obtain ⟨c7, hS, hn1, hn2⟩ := S6.out.va bl HS.out hr hg x6.1 ho; have b7 : (w7.setCell ⟨w.heap.size + 1 + 1, 8, none⟩ (.slice va6 vn6 vc6)).cell? ⟨w.heap.size, 0, none⟩ = some (.pointer (some ⟨b, 0, none⟩)) := hS.by_.2.1; have n7 : (w7.setCell ⟨w.heap.size + 1 + 1, 8, none⟩ (.slice va6 vn6 vc6)).cell? ⟨w.heap.size + 1 + 1 + 1, 0, none⟩ = some (.func (.func 27) #[] #[.pointer (some ⟨w.heap.size, 0, none⟩)]) := hS.by_.1; have S7 := hid_of hS; clear hS hn1 hn2 hk S6 b6 n6)
    | (go_at_call 27; have hx := S5; clear hx; refine (C5.out _ _ _ S5.out).mono ?_; rintro e w6 ⟨rfl, hr, hg⟩; have hk := blk_keep S5.out.lies hg (by omega); have k5 : w6.cell? ⟨w.heap.size + 1 + 1, 7, none⟩ = some (.int .i64 c5.ini) := blk_cell hk 7; have z5 : w6.frozen? ⟨w.heap.size + 1 + 1, 7, none⟩ = false := blk_fz hk 7; obtain ⟨c6, hS, hn1, hn2⟩ := S5.out.ini bl HS.out hr hg x5.1; have b6 : (w6.setCell ⟨w.heap.size + 1 + 1, 7, none⟩ (.int .i64 x5.1)).cell? ⟨w.heap.size, 0, none⟩ = some (.pointer (some ⟨b, 0, none⟩)) := hS.by_.2.1; have n6 : (w6.setCell ⟨w.heap.size + 1 + 1, 7, none⟩ (.int .i64 x5.1)).cell? ⟨w.heap.size + 1 + 1 + 1, 0, none⟩ = some (.func (.func 27) #[] #[.pointer (some ⟨w.heap.size, 0, none⟩)]) := hS.by_.1; have S6 := hid_of hS; clear hS hn1 hn2 hk S5 b5 n5)
    | (go_at_call 34; have hx := S4; clear hx; refine (C4.out _ _ _ S4.out N4.out.1 N4.out.2).mono ?_; intro e w5 hpp; obtain ⟨va4, vn4, vc4, rfl, ⟨cc, hk⟩, c5, l4, hS, hl4⟩ := S4.out.pr3 bl HS.out hpp; have k4 : w5.cell? ⟨w.heap.size + 1 + 1, 4, none⟩ = some (.slice cc.pr.a cc.pr.n cc.pr.c) := blk_cell hk 4; have z4 : w5.frozen? ⟨w.heap.size + 1 + 1, 4, none⟩ = false := blk_fz hk 4; have L4 : Hid (x4.2.st = false → l4 = x4.1) := hl4; clear hpp hl4; have b5 : (w5.setCell ⟨w.heap.size + 1 + 1, 4, none⟩ (.slice va4 vn4 vc4)).cell? ⟨w.heap.size, 0, none⟩ = some (.pointer (some ⟨b, 0, none⟩)) := hS.by_.2.1; have n5 : (w5.setCell ⟨w.heap.size + 1 + 1, 4, none⟩ (.slice va4 vn4 vc4)).cell? ⟨w.heap.size + 1 + 1 + 1, 0, none⟩ = some (.func (.func 27) #[] #[.pointer (some ⟨w.heap.size, 0, none⟩)]) := hS.by_.1; have S5 := hid_of hS; clear hS hk S4 b4 n4)
    | (go_at_call 33; have hx := S3; clear hx; refine (C3.out _ _ _ S3.out).mono ?_; rintro e w4 ⟨v, rfl, ho, hr, hg⟩; obtain ⟨va3, vn3, vc3, rfl⟩ := own_slice ho; have hk := blk_keep S3.out.lies hg (by omega); have k3 : w4.cell? ⟨w.heap.size + 1 + 1, 3, none⟩ = some (.slice c3.co.a c3.co.n c3.co.c) := blk_cell hk 3; have z3 : w4.frozen? ⟨w.heap.size + 1 + 1, 3, none⟩ = false := blk_fz hk 3; obtain ⟨c4, hS, hn1, hn2⟩ := S3.out.co bl HS.out hr hg x3.1 ho; have b4 : (w4.setCell ⟨w.heap.size + 1 + 1, 3, none⟩ (.slice va3 vn3 vc3)).cell? ⟨w.heap.size, 0, none⟩ = some (.pointer (some ⟨b, 0, none⟩)) := hS.by_.2.1; have n4 : (w4.setCell ⟨w.heap.size + 1 + 1, 3, none⟩ (.slice va3 vn3 vc3)).cell? ⟨w.heap.size + 1 + 1 + 1, 0, none⟩ = some (.func (.func 27) #[] #[.pointer (some ⟨w.heap.size, 0, none⟩)]) := hS.by_.1; have S4 := hid_of hS; have N4 : Hid (c4.na = ⟨none, 0, 0⟩ ∧ c4.ex = ⟨none, 0, 0⟩) := ⟨hn1.trans N3.out.1, hn2.trans N3.out.2⟩; clear hS hn1 hn2 hk S3 b3 n3)
    | (go_at_call 31; have hx := S2; clear hx; refine (C2.out _ _ _ S2.out).mono ?_; rintro e w3 ⟨v, rfl, ho, hr, hg⟩; obtain ⟨va2, vn2, vc2, rfl⟩ := own_slice ho; have hk := blk_keep S2.out.lies hg (by omega); have k2 : w3.cell? ⟨w.heap.size + 1 + 1, 2, none⟩ = some (.slice c2.im.a c2.im.n c2.im.c) := blk_cell hk 2; have z2 : w3.frozen? ⟨w.heap.size + 1 + 1, 2, none⟩ = false := blk_fz hk 2; obtain ⟨c3, hS, hn1, hn2⟩ := S2.out.im bl HS.out hr hg x2.1 ho; have b3 : (w3.setCell ⟨w.heap.size + 1 + 1, 2, none⟩ (.slice va2 vn2 vc2)).cell? ⟨w.heap.size, 0, none⟩ = some (.pointer (some ⟨b, 0, none⟩)) := hS.by_.2.1; have n3 : (w3.setCell ⟨w.heap.size + 1 + 1, 2, none⟩ (.slice va2 vn2 vc2)).cell? ⟨w.heap.size + 1 + 1 + 1, 0, none⟩ = some (.func (.func 27) #[] #[.pointer (some ⟨w.heap.size, 0, none⟩)]) := hS.by_.1; have S3 := hid_of hS; have N3 : Hid (c3.na = ⟨none, 0, 0⟩ ∧ c3.ex = ⟨none, 0, 0⟩) := ⟨hn1.trans N2.out.1, hn2.trans N2.out.2⟩; clear hS hn1 hn2 hk S2 b2 n2)
    | (go_at_call 30; have hx := S1; clear hx; refine (C1.out _ _ _ S1.out).mono ?_; rintro e w2 ⟨rfl, hr, hg⟩; have hk := blk_keep S1.out.lies hg (by omega); have k1 : w2.cell? ⟨w.heap.size + 1 + 1, 1, none⟩ = some (.int .u32 c1.key) := blk_cell hk 1; have z1 : w2.frozen? ⟨w.heap.size + 1 + 1, 1, none⟩ = false := blk_fz hk 1; obtain ⟨c2, hS, hn1, hn2⟩ := S1.out.key bl HS.out hr hg x1.1; have b2 : (w2.setCell ⟨w.heap.size + 1 + 1, 1, none⟩ (.int .u32 x1.1)).cell? ⟨w.heap.size, 0, none⟩ = some (.pointer (some ⟨b, 0, none⟩)) := hS.by_.2.1; have n2 : (w2.setCell ⟨w.heap.size + 1 + 1, 1, none⟩ (.int .u32 x1.1)).cell? ⟨w.heap.size + 1 + 1 + 1, 0, none⟩ = some (.func (.func 27) #[] #[.pointer (some ⟨w.heap.size, 0, none⟩)]) := hS.by_.1; have S2 := hid_of hS; have N2 : Hid (c2.na = ⟨none, 0, 0⟩ ∧ c2.ex = ⟨none, 0, 0⟩) := ⟨hn1.trans N1.out.1, hn2.trans N1.out.2⟩; clear hS hn1 hn2 hk S1 b1 n1)
    | (go_at_call 29; have hx := S0; clear hx; refine (C0.out _ _ _ S0.out).mono ?_; rintro e w1 ⟨rfl, hr, hg⟩; have hk := blk_keep S0.out.lies hg (by omega); have k0 : w1.cell? ⟨w.heap.size + 1 + 1, 0, none⟩ = some (.string c0.nm) := blk_cell hk 0; have z0 : w1.frozen? ⟨w.heap.size + 1 + 1, 0, none⟩ = false := blk_fz hk 0; obtain ⟨c1, hS, hn1, hn2⟩ := S0.out.nm bl HS.out hr hg x0.1; have b1 : (w1.setCell ⟨w.heap.size + 1 + 1, 0, none⟩ (.string x0.1)).cell? ⟨w.heap.size, 0, none⟩ = some (.pointer (some ⟨b, 0, none⟩)) := hS.by_.2.1; have n1 : (w1.setCell ⟨w.heap.size + 1 + 1, 0, none⟩ (.string x0.1)).cell? ⟨w.heap.size + 1 + 1 + 1, 0, none⟩ = some (.func (.func 27) #[] #[.pointer (some ⟨w.heap.size, 0, none⟩)]) := hS.by_.1; have S1 := hid_of hS; have N1 : Hid (c1.na = ⟨none, 0, 0⟩ ∧ c1.ex = ⟨none, 0, 0⟩) := ⟨hn1.trans N0.out.1, hn2.trans N0.out.2⟩; clear hS hn1 hn2 hk S0 b0 n0))
  refine ret_cell1 (p := 2) rfl rfl (loadO_run HZ.out.1) rfl ⟨c11, _, rfl, S11.out.ob.tq HZ.out.2 (fun k hk => by omega), fun e => ?_, ?_, ?_⟩
  · rw [L4.out (HST.out e)]
  · exact HZ.out.2.rdr S11.out.rd (by omega) (fun ad he => by have := HS.out ad he; omega)
  · have t := (S11.out.tq.mono (Q := fun k => k = b ∨ k = w.heap.size + 1) fun k _ e => .inl e).trans (HZ.out.2.mono fun k _ e => .inr e)
    exact ⟨t.os, t.tape, t.output, t.size, fun k hk hne => t.blk k hk (fun e => by rcases e with e | e; exact hne (by rw [e]); omega)⟩
end Go.Proofs.Ytepgifapepaheaa
