/-
  Layer 13: the reader's constant, variable and parameter.
-/
import Derived.Test.YtcppgpcgbggdcaaDoorYoc
import Derived.Test.YtcppgpcgbggdcaaDoorYbk
namespace Go.Proofs.YtcppgpcgbggdcaaDoor
set_option linter.unusedVariables false
set_option linter.unusedSimpArgs false
open Go.ChangeShapes Go.WideShapes Go.ChangeAt Go.RowKit

/-- A constant, a variable (or parameter) that is shown. -/
structure Cn where
  nm : ByteArray
  ty : Int
  n : Int
  s : ByteArray
  ex : Bool
structure Vr where
  nm : ByteArray
  fm : Int
  ln : Int
  op : Bool
  rf : Bool
def cEnc (x : Cn) : Array Value := #[.string x.nm, .int .i64 x.ty, .int .i64 x.n, .string x.s, .bool x.ex]
def vEnc (x : Vr) : Array Value := #[.string x.nm, .int .i64 x.fm, .int .i64 x.ln, .bool x.op, .bool x.rf]
theorem name_of (w : World) (b len cap : Nat) (a : Option Addr) (f : Nat → Int) (s : St) (h : Rdr w b a len cap f s) :
    Calls Tryd.prog 66 #[.pointer (some ⟨b, 0, none⟩)] w (PostR w b a len cap f (.string (textS f len 20 s).1) (textS f len 20 s).2) := by
  have T0 : Hid (Calls Tryd.prog 86 #[.pointer (some ⟨b, 0, none⟩), .int .i64 20] w _) := text_of w b len cap a f s h 20 (by omega) (by omega)
  clear h
  generalize textS f len 20 s = x at *
  go_enter Tryd.func66, Tryd.ntmps66
  go_wp2_with (go_at_call 86; refine T0.out.mono ?_; rintro e w1 ⟨rfl, hr, hg⟩)
  go_ret
  exact ⟨rfl, hr, hg⟩
theorem octP_bd (f : Nat → Int) (len : Nat) (P : Int → Bool) (s : St) (hf : ∀ i, i < len → 0 ≤ f i ∧ f i ≤ 255) : 0 ≤ (octP f len P s).1 ∧ (octP f len P s).1 ≤ 255 := by
  unfold octP
  split
  · rename_i h
    simp only [Bool.and_eq_true, decide_eq_true_eq] at h
    exact hf _ h.2.1
  · exact ⟨by simp, by simp⟩
/-- A variable. -/
def varS (f : Nat → Int) (len : Nat) (s : St) : Vr × St :=
  let x1 := textS f len 20 s
  let x2 := octP f len plainB x1.2
  let x3 := numS f len 4294967295 x2.2
  (⟨x1.1, x2.1, x3.1, false, false⟩, x3.2)
set_option maxHeartbeats 4000000 in
set_option maxRecDepth 20000 in
theorem variable_of (w : World) (b len cap : Nat) (a : Option Addr) (f : Nat → Int) (s : St) (h : Rdr w b a len cap f s) :
    Calls Tryd.prog 70 #[.pointer (some ⟨b, 0, none⟩)] w (PostR w b a len cap f (.agg (vEnc (varS f len s).1)) (varS f len s).2) := by
  have bl := h.bl
  have HA : Hid (∀ ad, a = some ad → ad.block ≠ w.heap.size) := fun ad he => by have := (h.ap ad he).2; omega
  have hnb : w.heap.size ≠ b := by omega
  unfold varS
  simp only
  have g1 : Hid (∀ X, Below w.heap.size w X → Calls Tryd.prog 66 #[.pointer (some ⟨b, 0, none⟩)] X _) := fun X hX => name_of X b len cap a f s (h.below hX)
  generalize textS f len 20 s = x1 at *
  have g2 : Hid (∀ X, Rdr X b a len cap f x1.2 → Calls Tryd.prog 88 #[.pointer (some ⟨b, 0, none⟩), .func (.func 52) #[] #[]] X _) := fun X hX => octet_pl X b len cap a f x1.2 hX
  generalize octP f len plainB x1.2 = x2 at *
  have g3 : Hid (∀ X, Rdr X b a len cap f x2.2 → Calls Tryd.prog 87 #[.pointer (some ⟨b, 0, none⟩), .int .u32 4294967295] X _) := fun X hX => number_of X b len cap a f x2.2 hX 4294967295 (by omega) (by omega)
  generalize numS f len 4294967295 x2.2 = x3 at *
  clear h
  go_enter Tryd.func70, Tryd.ntmps70
  go_wp2_with (first
    | (go_at_call 87; refine (g3.out _ R2.out).mono ?_; rintro e w3 ⟨rfl, hr3, hg3⟩; have B3 := blk_keep B2 hg3 hnb; have k0 := blk_cell B3 0; have k1 := blk_cell B3 1; have k2 := blk_cell B3 2; have k3 := blk_cell B3 3; have k4 := blk_cell B3 4; have z0 := blk_fz B3 0; have z1 := blk_fz B3 1; have z2 := blk_fz B3 2; have z3 := blk_fz B3 3; have z4 := blk_fz B3 4; simp at k0 k1 k2 k3 k4; have HR : Hid (Rdr w3 b a len cap f x3.2 ∧ w.grownBy w3 (some b)) := ⟨hr3, gb_trans (gb_trans (gb_trans (gb_of_below (by go_grown) b) hg1) hg2) hg3⟩; have HB : Hid (w3.heap[w.heap.size]? = some (.cells #[.string ⟨#[]⟩, .int .i64 0, .int .i64 0, .bool false, .bool false] 69 (0, 0))) := B3; clear hr3 hg1 hg2 hg3 B1 B2 B3 R1 R2)
    | (go_at_call 88; refine (g2.out _ R1.out).mono ?_; rintro e w2 ⟨rfl, hr2, hg2⟩; have R2 : Hid (Rdr w2 b a len cap f x2.2) := hr2; clear hr2; have B2 := blk_keep B1 hg2 hnb)
    | (go_at_call 66; refine (g1.out _ (by go_grown)).mono ?_; rintro e w1 ⟨rfl, hr1, hg1⟩; have R1 : Hid (Rdr w1 b a len cap f x1.2) := hr1; clear hr1; have B1 := blk_keep (blk_new _ _) hg1 hnb))
  exact ret_cell1 (p := 2) rfl rfl (load_blk (Go.Joins.block_setCell (Go.Joins.block_setCell (Go.Joins.block_setCell (Go.Joins.block_setCell (Go.Joins.block_setCell HB.out _) _) _) _) _) Tryd.underlying69 rfl (by kernel_rfl)) rfl ⟨rfl, ((((HR.out.1.far _ _ _ hnb.symm HA.out).far _ _ _ hnb.symm HA.out).far _ _ _ hnb.symm HA.out).far _ _ _ hnb.symm HA.out).far _ _ _ hnb.symm HA.out, gb_nset (gb_nset (gb_nset (gb_nset (gb_nset HR.out.2 (Nat.le_refl _)) (Nat.le_refl _)) (Nat.le_refl _)) (Nat.le_refl _)) (Nat.le_refl _)⟩
/-- A parameter. -/
def parS (f : Nat → Int) (len : Nat) (s : St) : Vr × St :=
  let x1 := octP f len plainB s
  let x2 := octP f len bitB x1.2
  (⟨⟨#[]⟩, x1.1, 0, decide (x2.1 = 1 ∨ x2.1 = 3), decide (x2.1 = 2 ∨ x2.1 = 3)⟩, x2.2)
theorem bit_four (f : Nat → Int) (len : Nat) (s : St) (hf : ∀ i, i < len → 0 ≤ f i ∧ f i ≤ 255) : (octP f len bitB s).1 = 0 ∨ (octP f len bitB s).1 = 1 ∨ (octP f len bitB s).1 = 2 ∨ (octP f len bitB s).1 = 3 := by
  unfold octP
  split
  · rename_i h
    simp only [Bool.and_eq_true, decide_eq_true_eq, bitB] at h
    have := hf _ h.2.1
    simp only
    omega
  · exact .inl rfl
set_option maxHeartbeats 4000000 in
set_option maxRecDepth 20000 in
theorem parameter_of (w : World) (b len cap : Nat) (a : Option Addr) (f : Nat → Int) (s : St) (h : Rdr w b a len cap f s) :
    Calls Tryd.prog 92 #[.pointer (some ⟨b, 0, none⟩)] w (PostR w b a len cap f (.agg (vEnc (parS f len s).1)) (parS f len s).2) := by
  have bl := h.bl
  have HA : Hid (∀ ad, a = some ad → ad.block ≠ w.heap.size) := fun ad he => by have := (h.ap ad he).2; omega
  have hnb : w.heap.size ≠ b := by omega
  unfold parS
  simp only
  have g1 : Hid (∀ X, Below w.heap.size w X → Calls Tryd.prog 88 #[.pointer (some ⟨b, 0, none⟩), .func (.func 52) #[] #[]] X _) := fun X hX => octet_pl X b len cap a f s (h.below hX)
  generalize octP f len plainB s = x1 at *
  have g2 : Hid (∀ X, Rdr X b a len cap f x1.2 → Calls Tryd.prog 88 #[.pointer (some ⟨b, 0, none⟩), .func (.func 103) #[] #[]] X _) := fun X hX => octet_bt X b len cap a f x1.2 hX
  have h4 := bit_four f len x1.2 h.bd
  generalize octP f len bitB x1.2 = x2 at *
  clear h
  obtain ⟨x2n, x2s⟩ := x2
  simp only at h4
  rcases h4 with rfl | rfl | rfl | rfl
  all_goals
    go_enter Tryd.func92, Tryd.ntmps92
    go_wp2_with (first
      | (have hx := R1; clear hx; go_at_call 88; refine (g2.out _ R1.out).mono ?_; rintro e w3 ⟨rfl, hr3, hg3⟩; have B3 := blk_keep B1 hg3 hnb; have k0 := blk_cell B3 0; have k1 := blk_cell B3 1; have k2 := blk_cell B3 2; have k3 := blk_cell B3 3; have k4 := blk_cell B3 4; have z0 := blk_fz B3 0; have z1 := blk_fz B3 1; have z2 := blk_fz B3 2; have z3 := blk_fz B3 3; have z4 := blk_fz B3 4; simp at k0 k1 k2 k3 k4; have HR : Hid (Rdr w3 b a len cap f x2s ∧ w.grownBy w3 (some b)) := ⟨hr3, gb_trans (gb_trans (gb_of_below (by go_grown) b) hg1) hg3⟩; have HB : Hid (w3.heap[w.heap.size]? = some (.cells #[.string ⟨#[]⟩, .int .i64 0, .int .i64 0, .bool false, .bool false] 69 (0, 0))) := B3; clear hr3 hg1 hg3 B1 B3)
      | (go_at_call 88; refine (g1.out _ (by go_grown)).mono ?_; rintro e w1 ⟨rfl, hr1, hg1⟩; have R1 : Hid (Rdr w1 b a len cap f x1.2) := hr1; clear hr1; have B1 := blk_keep (blk_new _ _) hg1 hnb))
    exact ret_cell1 (p := 2) rfl rfl (load_blk (Go.Joins.block_setCell (Go.Joins.block_setCell (Go.Joins.block_setCell (Go.Joins.block_setCell (Go.Joins.block_setCell HB.out _) _) _) _) _) Tryd.underlying69 rfl (by kernel_rfl)) rfl ⟨rfl, (((((HR.out.1.far _ _ _ hnb.symm HA.out).far _ _ _ hnb.symm HA.out).far _ _ _ hnb.symm HA.out).far _ _ _ hnb.symm HA.out).far _ _ _ hnb.symm HA.out), (gb_nset (gb_nset (gb_nset (gb_nset (gb_nset HR.out.2 (Nat.le_refl _)) (Nat.le_refl _)) (Nat.le_refl _)) (Nat.le_refl _)) (Nat.le_refl _))⟩
attribute [local go_sem ↓] ldC_seal stC_seal
def zeroC : Array Value := #[.string ⟨#[]⟩, .int .i64 0, .int .i64 0, .string ⟨#[]⟩, .bool false]
/-- A constant. -/
def conS (f : Nat → Int) (len : Nat) (s : St) : Cn × St :=
  let x1 := textS f len 20 s
  let x2 := octP f len conB x1.2
  if x2.1 = 7 then (⟨x1.1, x2.1, 0, (textS f len 200 x2.2).1, true⟩, (textS f len 200 x2.2).2)
  else if x2.1 = 1 then (⟨x1.1, x2.1, sext (wordS f len x2.2).1 32, ⟨#[]⟩, true⟩, (wordS f len x2.2).2)
  else (⟨x1.1, x2.1, (wordS f len x2.2).1, ⟨#[]⟩, true⟩, (wordS f len x2.2).2)
set_option maxHeartbeats 8000000 in
set_option maxRecDepth 20000 in
theorem constant_str (w : World) (b len cap : Nat) (a : Option Addr) (f : Nat → Int) (s : St) (h : Rdr w b a len cap f s) (x1 : ByteArray × St) (x2 : Int × St) (x3 : ByteArray × St) (h7 : x2.1 = 7)
    (g1 : ∀ X, Below w.heap.size w X → Calls Tryd.prog 66 #[.pointer (some ⟨b, 0, none⟩)] X (PostR X b a len cap f (.string x1.1) x1.2))
    (g2 : ∀ X, Rdr X b a len cap f x1.2 → Calls Tryd.prog 88 #[.pointer (some ⟨b, 0, none⟩), .func (.func 89) #[] #[]] X (PostR X b a len cap f (.int .i64 x2.1) x2.2))
    (g3 : ∀ X, Rdr X b a len cap f x2.2 → Calls Tryd.prog 86 #[.pointer (some ⟨b, 0, none⟩), .int .i64 200] X (PostR X b a len cap f (.string x3.1) x3.2)) :
    Calls Tryd.prog 68 #[.pointer (some ⟨b, 0, none⟩)] w (PostR w b a len cap f (.agg (cEnc ⟨x1.1, x2.1, 0, x3.1, true⟩)) x3.2) := by
  have bl := h.bl
  have hlo := fun ad he => (h.ap ad he).2
  have hnb : w.heap.size ≠ b := by omega
  have G1 := hid_of g1
  have G2 : Hid (∀ X, Rdr X b a len cap f x1.2 ∧ w.heap.size < X.heap.size ∧ w.grownBy X (some b) ∧ BA X w.heap.size 53 zeroC → Calls Tryd.prog 88 #[.pointer (some ⟨b, 0, none⟩), .func (.func 89) #[] #[]] X fun e w2 => e = .returned (.int .i64 x2.1) ∧ ∃ Z, (stT 53 ⟨w2.heap.size, 0, none⟩ (.agg #[.string x1.1, .int .i64 x2.1, .int .i64 0, .string ⟨#[]⟩, .bool true])).run Tryd.prog (w2.alloc (.cells zeroC 53)) = .ok () Z ∧ Z.cell? ⟨w2.heap.size, 1, none⟩ = some (.int .i64 x2.1) ∧ w.heap.size < w2.heap.size ∧ Hid (Rdr Z b a len cap f x2.2 ∧ w.grownBy Z (some b) ∧ BA Z w.heap.size 53 zeroC ∧ BA Z w2.heap.size 53 #[.string x1.1, .int .i64 x2.1, .int .i64 0, .string ⟨#[]⟩, .bool true])) := hid_of fun X hX => (g2 X hX.1).mono fun e w2 hh => by
    obtain ⟨rfl, hr2, hg2⟩ := hh
    obtain ⟨Z, z1, z2, z3⟩ := stT_run (w := w2.alloc (.cells zeroC 53)) #[.string x1.1, .int .i64 x2.1, .int .i64 0, .string ⟨#[]⟩, .bool true] (BA.new w2 _ zeroC) rfl (by kernel_rfl) (by simp [Value.oneCell'])
    have hs := hg2.size
    have bl2 := hr2.bl
    have gA : w.grownBy (w2.alloc (.cells zeroC 53)) (some b) := gb_trans (gb_trans hX.2.2.1 hg2) (gb_of_below ((Below.refl _ _).alloc (Nat.le_refl _) _) b)
    refine ⟨rfl, Z, z1, by rw [z2.cell]; rfl, by omega, z3.rd (hr2.below ((Below.refl _ _).alloc (Nat.le_refl _) _)) (by omega) (fun ad he => by have := (hr2.ap ad he).2; omega), z3.gbn gA (by omega), ?_, z2⟩
    exact ((hX.2.2.2.keep hg2 hnb).below ((Below.refl _ _).alloc (Nat.le_refl _) _)).tq z3 (by omega)
  have G3 : Hid (∀ X g, w.heap.size < g → Rdr X b a len cap f x2.2 ∧ w.grownBy X (some b) ∧ BA X w.heap.size 53 zeroC ∧ BA X g 53 #[.string x1.1, .int .i64 x2.1, .int .i64 0, .string ⟨#[]⟩, .bool true] → Calls Tryd.prog 86 #[.pointer (some ⟨b, 0, none⟩), .int .i64 200] X fun e w3 => e = .returned (.string x3.1) ∧ ∃ c0, w3.cell? ⟨g, 3, none⟩ = some c0 ∧ w3.frozen? ⟨g, 3, none⟩ = false ∧ (ldT 53 ⟨g, 0, none⟩).run Tryd.prog (w3.setCell ⟨g, 3, none⟩ (.string x3.1)) = .ok (.agg (cEnc ⟨x1.1, x2.1, 0, x3.1, true⟩)) (w3.setCell ⟨g, 3, none⟩ (.string x3.1)) ∧ ∃ Z, (stT 53 ⟨w.heap.size, 0, none⟩ (.agg (cEnc ⟨x1.1, x2.1, 0, x3.1, true⟩))).run Tryd.prog (w3.setCell ⟨g, 3, none⟩ (.string x3.1)) = .ok () Z ∧ Hid (Rdr Z b a len cap f x3.2 ∧ w.grownBy Z (some b) ∧ BA Z w.heap.size 53 (cEnc ⟨x1.1, x2.1, 0, x3.1, true⟩))) := hid_of fun X g hg hX => (g3 X hX.1).mono fun e w3 hh => by
    obtain ⟨rfl, hr3, hg3⟩ := hh
    have hgb : g ≠ b := by omega
    have B4 := hX.2.2.2.keep hg3 hgb
    have B0 := hX.2.2.1.keep hg3 hnb
    have B5 : BA (w3.setCell ⟨g, 3, none⟩ (.string x3.1)) g 53 (cEnc ⟨x1.1, x2.1, 0, x3.1, true⟩) := B4.set _
    have B1 : BA (w3.setCell ⟨g, 3, none⟩ (.string x3.1)) w.heap.size 53 zeroC := B0.tq (Tq.set (P := fun k => k = g) rfl) (by omega)
    obtain ⟨Z, z1, z2, z3⟩ := stT_run (cEnc ⟨x1.1, x2.1, 0, x3.1, true⟩) B1 rfl (by kernel_rfl) (by simp [cEnc, Value.oneCell'])
    have hl := B4.lt
    have hal : ∀ ad, a = some ad → ad.block ≠ g ∧ ad.block ≠ w.heap.size := fun ad he => ⟨by have := hlo ad he; omega, by have := hlo ad he; omega⟩
    refine ⟨rfl, _, by rw [B4.cell]; rfl, B4.fz _, ldT_run B5 Tryd.underlying53 rfl (by kernel_rfl), Z, z1, z3.rd (hr3.far g _ _ hgb.symm (fun ad he => (hal ad he).1)) hnb.symm (fun ad he => (hal ad he).2), z3.gbn (gb_nset (gb_trans hX.2.1 hg3) (by omega)) (Nat.le_refl _), z2⟩
  have HL := hid_of hlo
  clear h g1 g2 g3 hlo
  unfold zeroC at G2 G3
  unfold cEnc at G3
  have d7 : (x2.1 == 7) = true := by simpa using h7
  clear h7
  go_enter Tryd.func68, Tryd.ntmps68
  go_wp2_with (first
    | (go_at_call 86; refine (G3.out _ _ hlt H2.out).mono ?_; rintro e w3 ⟨rfl, c0, k1, z0, l1, Z5, s1, HR⟩; clear H2)
    | (go_at_call 88; refine (G2.out _ H1.out).mono ?_; rintro e w2 ⟨rfl, Z, z1, k0, hlt, H2⟩; clear H1)
    | (go_at_call 66; refine (G1.out _ (by go_grown)).mono ?_; rintro e w1 ⟨rfl, hr1, hg1⟩; have hs1 := hg1.size; simp at hs1; have H1 := hid_of (show Rdr w1 b a len cap f x1.2 ∧ w.heap.size < w1.heap.size ∧ w.grownBy w1 (some b) ∧ BA w1 w.heap.size 53 zeroC from ⟨hr1, by omega, gb_trans (gb_of_below (by go_grown) b) hg1, BA.keep (BA.new w _ zeroC) hg1 hnb⟩); clear hr1 hg1 hs1))
  exact ret_cell1 (p := 2) rfl rfl (load_blk HR.out.2.2 Tryd.underlying53 rfl (by kernel_rfl)) rfl ⟨rfl, HR.out.1, HR.out.2.1⟩
set_option maxHeartbeats 8000000 in
set_option maxRecDepth 20000 in
theorem constant_int (w : World) (b len cap : Nat) (a : Option Addr) (f : Nat → Int) (s : St) (h : Rdr w b a len cap f s) (x1 : ByteArray × St) (x2 : Int × St) (x3 : Int × St) (h7 : x2.1 = 1) (hb0 : 0 ≤ x3.1) (hb1 : x3.1 ≤ 4294967295)
    (g1 : ∀ X, Below w.heap.size w X → Calls Tryd.prog 66 #[.pointer (some ⟨b, 0, none⟩)] X (PostR X b a len cap f (.string x1.1) x1.2))
    (g2 : ∀ X, Rdr X b a len cap f x1.2 → Calls Tryd.prog 88 #[.pointer (some ⟨b, 0, none⟩), .func (.func 89) #[] #[]] X (PostR X b a len cap f (.int .i64 x2.1) x2.2))
    (g3 : ∀ X, Rdr X b a len cap f x2.2 → Calls Tryd.prog 91 #[.pointer (some ⟨b, 0, none⟩)] X (PostR X b a len cap f (.int .u32 x3.1) x3.2)) :
    Calls Tryd.prog 68 #[.pointer (some ⟨b, 0, none⟩)] w (PostR w b a len cap f (.agg (cEnc ⟨x1.1, x2.1, sext x3.1 32, ⟨#[]⟩, true⟩)) x3.2) := by
  have bl := h.bl
  have hlo := fun ad he => (h.ap ad he).2
  have hnb : w.heap.size ≠ b := by omega
  have G1 := hid_of g1
  have G2 : Hid (∀ X, Rdr X b a len cap f x1.2 ∧ w.heap.size < X.heap.size ∧ w.grownBy X (some b) ∧ BA X w.heap.size 53 zeroC → Calls Tryd.prog 88 #[.pointer (some ⟨b, 0, none⟩), .func (.func 89) #[] #[]] X fun e w2 => e = .returned (.int .i64 x2.1) ∧ ∃ Z, (stT 53 ⟨w2.heap.size, 0, none⟩ (.agg #[.string x1.1, .int .i64 x2.1, .int .i64 0, .string ⟨#[]⟩, .bool true])).run Tryd.prog (w2.alloc (.cells zeroC 53)) = .ok () Z ∧ Z.cell? ⟨w2.heap.size, 1, none⟩ = some (.int .i64 x2.1) ∧ w.heap.size < w2.heap.size ∧ Hid (Rdr Z b a len cap f x2.2 ∧ w.grownBy Z (some b) ∧ BA Z w.heap.size 53 zeroC ∧ BA Z w2.heap.size 53 #[.string x1.1, .int .i64 x2.1, .int .i64 0, .string ⟨#[]⟩, .bool true])) := hid_of fun X hX => (g2 X hX.1).mono fun e w2 hh => by
    obtain ⟨rfl, hr2, hg2⟩ := hh
    obtain ⟨Z, z1, z2, z3⟩ := stT_run (w := w2.alloc (.cells zeroC 53)) #[.string x1.1, .int .i64 x2.1, .int .i64 0, .string ⟨#[]⟩, .bool true] (BA.new w2 _ zeroC) rfl (by kernel_rfl) (by simp [Value.oneCell'])
    have hs := hg2.size
    have bl2 := hr2.bl
    have gA : w.grownBy (w2.alloc (.cells zeroC 53)) (some b) := gb_trans (gb_trans hX.2.2.1 hg2) (gb_of_below ((Below.refl _ _).alloc (Nat.le_refl _) _) b)
    refine ⟨rfl, Z, z1, by rw [z2.cell]; rfl, by omega, z3.rd (hr2.below ((Below.refl _ _).alloc (Nat.le_refl _) _)) (by omega) (fun ad he => by have := (hr2.ap ad he).2; omega), z3.gbn gA (by omega), ?_, z2⟩
    exact ((hX.2.2.2.keep hg2 hnb).below ((Below.refl _ _).alloc (Nat.le_refl _) _)).tq z3 (by omega)
  have G3 : Hid (∀ X g, w.heap.size < g → Rdr X b a len cap f x2.2 ∧ w.grownBy X (some b) ∧ BA X w.heap.size 53 zeroC ∧ BA X g 53 #[.string x1.1, .int .i64 x2.1, .int .i64 0, .string ⟨#[]⟩, .bool true] → Calls Tryd.prog 91 #[.pointer (some ⟨b, 0, none⟩)] X fun e w3 => e = .returned (.int .u32 x3.1) ∧ ∃ c0, w3.cell? ⟨g, 2, none⟩ = some c0 ∧ w3.frozen? ⟨g, 2, none⟩ = false ∧ (ldT 53 ⟨g, 0, none⟩).run Tryd.prog (w3.setCell ⟨g, 2, none⟩ (.int .i64 (sext x3.1 32))) = .ok (.agg (cEnc ⟨x1.1, x2.1, sext x3.1 32, ⟨#[]⟩, true⟩)) (w3.setCell ⟨g, 2, none⟩ (.int .i64 (sext x3.1 32))) ∧ ∃ Z, (stT 53 ⟨w.heap.size, 0, none⟩ (.agg (cEnc ⟨x1.1, x2.1, sext x3.1 32, ⟨#[]⟩, true⟩))).run Tryd.prog (w3.setCell ⟨g, 2, none⟩ (.int .i64 (sext x3.1 32))) = .ok () Z ∧ Hid (Rdr Z b a len cap f x3.2 ∧ w.grownBy Z (some b) ∧ BA Z w.heap.size 53 (cEnc ⟨x1.1, x2.1, sext x3.1 32, ⟨#[]⟩, true⟩))) := hid_of fun X g hg hX => (g3 X hX.1).mono fun e w3 hh => by
    obtain ⟨rfl, hr3, hg3⟩ := hh
    have hgb : g ≠ b := by omega
    have B4 := hX.2.2.2.keep hg3 hgb
    have B0 := hX.2.2.1.keep hg3 hnb
    have B5 : BA (w3.setCell ⟨g, 2, none⟩ (.int .i64 (sext x3.1 32))) g 53 (cEnc ⟨x1.1, x2.1, sext x3.1 32, ⟨#[]⟩, true⟩) := B4.set _
    have B1 : BA (w3.setCell ⟨g, 2, none⟩ (.int .i64 (sext x3.1 32))) w.heap.size 53 zeroC := B0.tq (Tq.set (P := fun k => k = g) rfl) (by omega)
    obtain ⟨Z, z1, z2, z3⟩ := stT_run (cEnc ⟨x1.1, x2.1, sext x3.1 32, ⟨#[]⟩, true⟩) B1 rfl (by kernel_rfl) (by simp [cEnc, Value.oneCell'])
    have hl := B4.lt
    have hal : ∀ ad, a = some ad → ad.block ≠ g ∧ ad.block ≠ w.heap.size := fun ad he => ⟨by have := hlo ad he; omega, by have := hlo ad he; omega⟩
    refine ⟨rfl, _, by rw [B4.cell]; rfl, B4.fz _, ldT_run B5 Tryd.underlying53 rfl (by kernel_rfl), Z, z1, z3.rd (hr3.far g _ _ hgb.symm (fun ad he => (hal ad he).1)) hnb.symm (fun ad he => (hal ad he).2), z3.gbn (gb_nset (gb_trans hX.2.1 hg3) (by omega)) (Nat.le_refl _), z2⟩
  have HL := hid_of hlo
  clear h g1 g2 g3 hlo
  unfold zeroC at G2 G3
  unfold cEnc at G3
  have d7 : (x2.1 == 7) = false := by rw [h7]; rfl
  have d1 : (x2.1 == 1) = true := by simpa using h7
  have SX : Hid (∀ X, Calls Tryd.prog 90 #[.int .u32 x3.1, .int .i64 32] X fun e w1 => e = .returned (.int .i64 (sext x3.1 32)) ∧ w1 = X) := fun X => sext_any x3.1 32 X hb0 hb1
  clear h7
  go_enter Tryd.func68, Tryd.ntmps68
  go_wp2_with (first
    | (go_at_call 90; refine (SX.out _).mono ?_; rintro e w4 ⟨rfl, rfl⟩)
    | (go_at_call 91; refine (G3.out _ _ hlt H2.out).mono ?_; rintro e w3 ⟨rfl, c0, k1, z0, l1, Z5, s1, HR⟩; clear H2)
    | (go_at_call 88; refine (G2.out _ H1.out).mono ?_; rintro e w2 ⟨rfl, Z, z1, k0, hlt, H2⟩; clear H1)
    | (go_at_call 66; refine (G1.out _ (by go_grown)).mono ?_; rintro e w1 ⟨rfl, hr1, hg1⟩; have hs1 := hg1.size; simp at hs1; have H1 := hid_of (show Rdr w1 b a len cap f x1.2 ∧ w.heap.size < w1.heap.size ∧ w.grownBy w1 (some b) ∧ BA w1 w.heap.size 53 zeroC from ⟨hr1, by omega, gb_trans (gb_of_below (by go_grown) b) hg1, BA.keep (BA.new w _ zeroC) hg1 hnb⟩); clear hr1 hg1 hs1))
  exact ret_cell1 (p := 2) rfl rfl (load_blk HR.out.2.2 Tryd.underlying53 rfl (by kernel_rfl)) rfl ⟨rfl, HR.out.1, HR.out.2.1⟩
set_option maxHeartbeats 8000000 in
set_option maxRecDepth 20000 in
theorem constant_num (w : World) (b len cap : Nat) (a : Option Addr) (f : Nat → Int) (s : St) (h : Rdr w b a len cap f s) (x1 : ByteArray × St) (x2 : Int × St) (x3 : Int × St) (h7 : x2.1 ≠ 7) (h1 : x2.1 ≠ 1) (hb0 : 0 ≤ x3.1) (hb1 : x3.1 ≤ 4294967295)
    (g1 : ∀ X, Below w.heap.size w X → Calls Tryd.prog 66 #[.pointer (some ⟨b, 0, none⟩)] X (PostR X b a len cap f (.string x1.1) x1.2))
    (g2 : ∀ X, Rdr X b a len cap f x1.2 → Calls Tryd.prog 88 #[.pointer (some ⟨b, 0, none⟩), .func (.func 89) #[] #[]] X (PostR X b a len cap f (.int .i64 x2.1) x2.2))
    (g3 : ∀ X, Rdr X b a len cap f x2.2 → Calls Tryd.prog 91 #[.pointer (some ⟨b, 0, none⟩)] X (PostR X b a len cap f (.int .u32 x3.1) x3.2)) :
    Calls Tryd.prog 68 #[.pointer (some ⟨b, 0, none⟩)] w (PostR w b a len cap f (.agg (cEnc ⟨x1.1, x2.1, x3.1, ⟨#[]⟩, true⟩)) x3.2) := by
  have bl := h.bl
  have hlo := fun ad he => (h.ap ad he).2
  have hnb : w.heap.size ≠ b := by omega
  have G1 := hid_of g1
  have G2 : Hid (∀ X, Rdr X b a len cap f x1.2 ∧ w.heap.size < X.heap.size ∧ w.grownBy X (some b) ∧ BA X w.heap.size 53 zeroC → Calls Tryd.prog 88 #[.pointer (some ⟨b, 0, none⟩), .func (.func 89) #[] #[]] X fun e w2 => e = .returned (.int .i64 x2.1) ∧ ∃ Z, (stT 53 ⟨w2.heap.size, 0, none⟩ (.agg #[.string x1.1, .int .i64 x2.1, .int .i64 0, .string ⟨#[]⟩, .bool true])).run Tryd.prog (w2.alloc (.cells zeroC 53)) = .ok () Z ∧ Z.cell? ⟨w2.heap.size, 1, none⟩ = some (.int .i64 x2.1) ∧ w.heap.size < w2.heap.size ∧ Hid (Rdr Z b a len cap f x2.2 ∧ w.grownBy Z (some b) ∧ BA Z w.heap.size 53 zeroC ∧ BA Z w2.heap.size 53 #[.string x1.1, .int .i64 x2.1, .int .i64 0, .string ⟨#[]⟩, .bool true])) := hid_of fun X hX => (g2 X hX.1).mono fun e w2 hh => by
    obtain ⟨rfl, hr2, hg2⟩ := hh
    obtain ⟨Z, z1, z2, z3⟩ := stT_run (w := w2.alloc (.cells zeroC 53)) #[.string x1.1, .int .i64 x2.1, .int .i64 0, .string ⟨#[]⟩, .bool true] (BA.new w2 _ zeroC) rfl (by kernel_rfl) (by simp [Value.oneCell'])
    have hs := hg2.size
    have bl2 := hr2.bl
    have gA : w.grownBy (w2.alloc (.cells zeroC 53)) (some b) := gb_trans (gb_trans hX.2.2.1 hg2) (gb_of_below ((Below.refl _ _).alloc (Nat.le_refl _) _) b)
    refine ⟨rfl, Z, z1, by rw [z2.cell]; rfl, by omega, z3.rd (hr2.below ((Below.refl _ _).alloc (Nat.le_refl _) _)) (by omega) (fun ad he => by have := (hr2.ap ad he).2; omega), z3.gbn gA (by omega), ?_, z2⟩
    exact ((hX.2.2.2.keep hg2 hnb).below ((Below.refl _ _).alloc (Nat.le_refl _) _)).tq z3 (by omega)
  have G3 : Hid (∀ X g, w.heap.size < g → Rdr X b a len cap f x2.2 ∧ w.grownBy X (some b) ∧ BA X w.heap.size 53 zeroC ∧ BA X g 53 #[.string x1.1, .int .i64 x2.1, .int .i64 0, .string ⟨#[]⟩, .bool true] → Calls Tryd.prog 91 #[.pointer (some ⟨b, 0, none⟩)] X fun e w3 => e = .returned (.int .u32 x3.1) ∧ ∃ c0, w3.cell? ⟨g, 2, none⟩ = some c0 ∧ w3.frozen? ⟨g, 2, none⟩ = false ∧ (ldT 53 ⟨g, 0, none⟩).run Tryd.prog (w3.setCell ⟨g, 2, none⟩ (.int .i64 x3.1)) = .ok (.agg (cEnc ⟨x1.1, x2.1, x3.1, ⟨#[]⟩, true⟩)) (w3.setCell ⟨g, 2, none⟩ (.int .i64 x3.1)) ∧ ∃ Z, (stT 53 ⟨w.heap.size, 0, none⟩ (.agg (cEnc ⟨x1.1, x2.1, x3.1, ⟨#[]⟩, true⟩))).run Tryd.prog (w3.setCell ⟨g, 2, none⟩ (.int .i64 x3.1)) = .ok () Z ∧ Hid (Rdr Z b a len cap f x3.2 ∧ w.grownBy Z (some b) ∧ BA Z w.heap.size 53 (cEnc ⟨x1.1, x2.1, x3.1, ⟨#[]⟩, true⟩))) := hid_of fun X g hg hX => (g3 X hX.1).mono fun e w3 hh => by
    obtain ⟨rfl, hr3, hg3⟩ := hh
    have hgb : g ≠ b := by omega
    have B4 := hX.2.2.2.keep hg3 hgb
    have B0 := hX.2.2.1.keep hg3 hnb
    have B5 : BA (w3.setCell ⟨g, 2, none⟩ (.int .i64 x3.1)) g 53 (cEnc ⟨x1.1, x2.1, x3.1, ⟨#[]⟩, true⟩) := B4.set _
    have B1 : BA (w3.setCell ⟨g, 2, none⟩ (.int .i64 x3.1)) w.heap.size 53 zeroC := B0.tq (Tq.set (P := fun k => k = g) rfl) (by omega)
    obtain ⟨Z, z1, z2, z3⟩ := stT_run (cEnc ⟨x1.1, x2.1, x3.1, ⟨#[]⟩, true⟩) B1 rfl (by kernel_rfl) (by simp [cEnc, Value.oneCell'])
    have hl := B4.lt
    have hal : ∀ ad, a = some ad → ad.block ≠ g ∧ ad.block ≠ w.heap.size := fun ad he => ⟨by have := hlo ad he; omega, by have := hlo ad he; omega⟩
    refine ⟨rfl, _, by rw [B4.cell]; rfl, B4.fz _, ldT_run B5 Tryd.underlying53 rfl (by kernel_rfl), Z, z1, z3.rd (hr3.far g _ _ hgb.symm (fun ad he => (hal ad he).1)) hnb.symm (fun ad he => (hal ad he).2), z3.gbn (gb_nset (gb_trans hX.2.1 hg3) (by omega)) (Nat.le_refl _), z2⟩
  have HL := hid_of hlo
  clear h g1 g2 g3 hlo
  unfold zeroC at G2 G3
  unfold cEnc at G3
  have d7 : (x2.1 == 7) = false := by simpa using h7
  have d1 : (x2.1 == 1) = false := by simpa using h1
  have e3 : IntKind.i64.wrap x3.1 = x3.1 := by rw [IntWalk.i64_left, IntWalk.wrap64_in]; omega
  clear h7 h1
  go_enter Tryd.func68, Tryd.ntmps68
  go_wp2_with (first
    | (go_at_call 91; refine (G3.out _ _ hlt H2.out).mono ?_; rintro e w3 ⟨rfl, c0, k1, z0, l1, Z5, s1, HR⟩; clear H2)
    | (go_at_call 88; refine (G2.out _ H1.out).mono ?_; rintro e w2 ⟨rfl, Z, z1, k0, hlt, H2⟩; clear H1)
    | (go_at_call 66; refine (G1.out _ (by go_grown)).mono ?_; rintro e w1 ⟨rfl, hr1, hg1⟩; have hs1 := hg1.size; simp at hs1; have H1 := hid_of (show Rdr w1 b a len cap f x1.2 ∧ w.heap.size < w1.heap.size ∧ w.grownBy w1 (some b) ∧ BA w1 w.heap.size 53 zeroC from ⟨hr1, by omega, gb_trans (gb_of_below (by go_grown) b) hg1, BA.keep (BA.new w _ zeroC) hg1 hnb⟩); clear hr1 hg1 hs1))
  exact ret_cell1 (p := 2) rfl rfl (load_blk HR.out.2.2 Tryd.underlying53 rfl (by kernel_rfl)) rfl ⟨rfl, HR.out.1, HR.out.2.1⟩
theorem wordS_bd {f : Nat → Int} {len : Nat} (hf : ∀ i, i < len → 0 ≤ f i ∧ f i ≤ 255) (s : St) : 0 ≤ (wordS f len s).1 ∧ (wordS f len s).1 ≤ 4294967295 := by
  unfold wordS
  split
  · rename_i h
    simp only [Bool.and_eq_true] at h
    have h4 : fits len s.p = true := h.2
    unfold gotW
    rw [if_pos h4]
    unfold fits at h4
    have := of_decide_eq_true h4
    have a0 := hf s.p (by omega)
    have a1 := hf (s.p + 1) (by omega)
    have a2 := hf (s.p + 2) (by omega)
    have a3 := hf (s.p + 3) (by omega)
    unfold wordAt
    simp only [tgv, Int.toNat_natCast]
    simp only [Nat.add_zero] at *
    omega
  · exact ⟨by simp, by simp⟩
theorem constant_of (w : World) (b len cap : Nat) (a : Option Addr) (f : Nat → Int) (s : St) (h : Rdr w b a len cap f s) :
    Calls Tryd.prog 68 #[.pointer (some ⟨b, 0, none⟩)] w (PostR w b a len cap f (.agg (cEnc (conS f len s).1)) (conS f len s).2) := by
  have hb := wordS_bd h.bd (octP f len conB (textS f len 20 s).2).2
  have G1 : ∀ X, Below w.heap.size w X → Calls Tryd.prog 66 #[.pointer (some ⟨b, 0, none⟩)] X (PostR X b a len cap f (.string (textS f len 20 s).1) (textS f len 20 s).2) := fun X hX => name_of X b len cap a f s (h.below hX)
  have G2 : ∀ X, Rdr X b a len cap f (textS f len 20 s).2 → Calls Tryd.prog 88 #[.pointer (some ⟨b, 0, none⟩), .func (.func 89) #[] #[]] X (PostR X b a len cap f (.int .i64 (octP f len conB (textS f len 20 s).2).1) (octP f len conB (textS f len 20 s).2).2) := fun X hX => octet_cn X b len cap a f _ hX
  unfold conS
  simp only
  split
  · rename_i h7
    exact constant_str w b len cap a f s h _ _ (textS f len 200 (octP f len conB (textS f len 20 s).2).2) h7 G1 G2 (fun X hX => text_of X b len cap a f _ hX 200 (by omega) (by omega))
  · rename_i h7
    split
    · rename_i h1
      exact constant_int w b len cap a f s h _ _ (wordS f len (octP f len conB (textS f len 20 s).2).2) h1 hb.1 hb.2 G1 G2 (fun X hX => word_of X b len cap a f _ hX)
    · rename_i h1
      exact constant_num w b len cap a f s h _ _ (wordS f len (octP f len conB (textS f len 20 s).2).2) h7 h1 hb.1 hb.2 G1 G2 (fun X hX => word_of X b len cap a f _ hX)
end Go.Proofs.YtcppgpcgbggdcaaDoor
