/-
  Layer 13: modules: their types, variables and procedures; what is shown of a thing.
  Layer 13: what is shown of a thing.
  Layer 13: modules: variables, procedures; a row in a struct's field grows by one.
  Layer 13: what is shown of a procedure.
  Layer 13: modules, and the rows of what they show.
  Layer 13: what is shown of a module.
-/
import Derived.Test.YtcppgpcgbggdcaaDoorYea
import Derived.Test.YtcppgpcgbggdcaaDoorYbs
import Derived.Deep.DeepAppendWide
import Derived.Laws.OwnMore
import Derived.Deep.CutBlock
import Derived.Deep.CutRange
namespace Go.Proofs.YtcppgpcgbggdcaaDoor
set_option linter.unusedVariables false
set_option linter.unusedSimpArgs false
open Go.ChangeShapes Go.WideShapes Go.ChangeAt Go.RowKit
attribute [local go_sem ↓] ldV_seal stV_seal ldY_seal stY_seal

/-- A type of a module: its form, length, element; and what is not asked. -/
structure Tz where
  fm : Int
  ln : Int
  el : Int
  bs : Int
  fs : Sl
  sz : Int
  lv : Int
def tzE (x : Tz) : Array Value := #[.int .i64 x.fm, .int .i64 x.ln, .int .i64 x.el, .int .i64 x.bs, .slice x.fs.a x.fs.n x.fs.c, .int .i64 x.sz, .int .i64 x.lv]
def zeroTz : Tz := ⟨0, 0, 0, 0, ⟨none, 0, 0⟩, 0, 0⟩
/-- The type at a place, if there is one. -/
def tyA (l : List Tz) (i : Int) : Option Tz := if 0 ≤ i then l[i.toNat]? else none
def tyV (l : List Tz) (i : Int) : Tz := (tyA l i).getD zeroTz
def tyB (l : List Tz) (i : Int) : Bool := (tyA l i).isSome
theorem zeroTz_c : tzE zeroTz = #[.int .i64 0, .int .i64 0, .int .i64 0, .int .i64 0, .slice none 0 0, .int .i64 0, .int .i64 0] := rfl
theorem tz_one (x : Tz) : ((tzE x).all fun x => x.oneCell') = true := by simp [tzE, Value.oneCell']
theorem vr_one (x : Vr) : ((vEnc x).all fun x => x.oneCell') = true := by simp [vEnc, Value.oneCell']
set_option maxHeartbeats 4000000 in
set_option maxRecDepth 20000 in
theorem typeAt_any (w : World) (l : List Tz) (s : Sl) (i : Int) (h : RdV w 7 s l.length (flat tzE l)) : Calls Tryd.prog 94 #[.slice s.a s.n s.c, .int .i64 i] w fun e w' => e = .returned (.tuple #[.agg (tzE (tyV l i)), .bool (tyB l i)]) ∧ Below w.heap.size w w' := by
  obtain ⟨a, sn, sc⟩ := s
  have hsn : sn = l.length := h.len
  subst hsn
  dsimp only
  by_cases h0 : i < 0
  · have hv : tyA l i = none := by unfold tyA; rw [if_neg (by omega)]
    have e1 : tyV l i = zeroTz := by unfold tyV; rw [hv]; rfl
    have e2 : tyB l i = false := by unfold tyB; rw [hv]; rfl
    rw [e1, e2]
    obtain ⟨Z, hst, hz, ht⟩ := stT_run (tzE zeroTz) (BA.new w 102 (tzE zeroTz)) rfl (by kernel_rfl) (tz_one _)
    have HB : Hid (Below w.heap.size w Z) := ((Below.refl _ _).alloc (Nat.le_refl _) _).trans (ht.bel (by simp) (Nat.le_refl _))
    have d1 : decide (i < 0) = true := decide_eq_true h0
    rw [zeroTz_c] at hst
    clear h hv e1 e2
    go_enter Tryd.func94, Tryd.ntmps94
    go_wp2
    refine ret_cell_tmp (p := 4) (q := 5) rfl rfl (load_blk hz Tryd.underlying102 rfl (by kernel_rfl)) rfl ?_
    exact ⟨rfl, HB.out⟩
  have d1 : decide (i < 0) = false := decide_eq_false h0
  by_cases h1 : (l.length : Int) ≤ i
  · have hv : tyA l i = none := by unfold tyA; rw [if_pos (by omega), List.getElem?_eq_none (by omega)]
    have e1 : tyV l i = zeroTz := by unfold tyV; rw [hv]; rfl
    have e2 : tyB l i = false := by unfold tyB; rw [hv]; rfl
    rw [e1, e2]
    obtain ⟨Z, hst, hz, ht⟩ := stT_run (tzE zeroTz) (BA.new w 102 (tzE zeroTz)) rfl (by kernel_rfl) (tz_one _)
    have HB : Hid (Below w.heap.size w Z) := ((Below.refl _ _).alloc (Nat.le_refl _) _).trans (ht.bel (by simp) (Nat.le_refl _))
    have d2 : decide ((l.length : Int) ≤ i) = true := decide_eq_true h1
    rw [zeroTz_c] at hst
    clear h hv e1 e2
    go_enter Tryd.func94, Tryd.ntmps94
    go_wp2
    refine ret_cell_tmp (p := 4) (q := 5) rfl rfl (load_blk hz Tryd.underlying102 rfl (by kernel_rfl)) rfl ?_
    exact ⟨rfl, HB.out⟩
  · obtain ⟨n, rfl⟩ : ∃ n : Nat, i = (n : Int) := ⟨i.toNat, by omega⟩
    have hn : n < l.length := by omega
    have hv : tyA l (n : Int) = some l[n] := by unfold tyA; rw [if_pos (by omega), Int.toNat_natCast, List.getElem?_eq_getElem hn]
    have e1 : tyV l (n : Int) = l[n] := by unfold tyV; rw [hv]; rfl
    have e2 : tyB l (n : Int) = true := by unfold tyB; rw [hv]; rfl
    rw [e1, e2]
    have h2 := h.below (Y := w.alloc (.cells (tzE zeroTz) 102)) ((Below.refl _ _).alloc (Nat.le_refl _) _)
    obtain ⟨g, off, rfl, hg, hc⟩ := h2.elem (fun _ => rfl) n hn
    have hl0 := ldT_mid (ty := 102) hc Tryd.underlying102 rfl (by kernel_rfl)
    obtain ⟨Z, hst, hz, ht⟩ := stT_run (tzE l[n]) (BA.new w 102 (tzE zeroTz)) rfl (by kernel_rfl) (tz_one _)
    have HB : Hid (Below w.heap.size w Z) := ((Below.refl _ _).alloc (Nat.le_refl _) _).trans (ht.bel (by simp) (Nat.le_refl _))
    have d2 : decide ((l.length : Int) ≤ (n : Int)) = false := decide_eq_false (by omega)
    have j0 : (0 : Int) ≤ (n : Int) := by omega
    have j1 : (n : Int) < (l.length : Int) := by omega
    rw [zeroTz_c] at hst hl0
    generalize tzE l[n] = cc at *
    clear h hv e1 e2 h2 hc
    go_enter Tryd.func94, Tryd.ntmps94
    go_wp2
    refine ret_cell_tmp (p := 4) (q := 5) rfl rfl (load_blk hz Tryd.underlying102 rfl (by kernel_rfl)) rfl ?_
    exact ⟨rfl, HB.out⟩
/-- What is shown of a thing: its form, or its elements'; and whether there is such a type. -/
def thV (l : List Tz) (i many : Int) : Vr :=
  if tyB l i = true ∧ (tyV l i).fm = many then ⟨⟨#[]⟩, (tyV l (tyV l i).el).fm, if many = 8 then (tyV l i).ln else 0, decide (many = 9), false⟩ else ⟨⟨#[]⟩, (tyV l i).fm, 0, false, false⟩
def thB (l : List Tz) (i many : Int) : Bool := if tyB l i = true ∧ (tyV l i).fm = many then tyB l (tyV l i).el else tyB l i
end Go.Proofs.YtcppgpcgbggdcaaDoor

namespace Go.Proofs.YtcppgpcgbggdcaaDoor
set_option linter.unusedVariables false
set_option linter.unusedSimpArgs false
open Go.ChangeShapes Go.WideShapes Go.ChangeAt Go.RowKit
attribute [local go_sem ↓] ldV_seal stV_seal ldY_seal stY_seal

theorem typeAt_box (w X : World) (l : List Tz) (s : Sl) (h : RdV w 7 s l.length (flat tzE l)) (hX : Below w.heap.size w X) (j : Int) : Calls Tryd.prog 94 #[.slice s.a s.n s.c, .int .i64 j] X fun e Y => ∃ Z, e = .returned (.tuple #[.agg (tzE (tyV l j)), .bool (tyB l j)]) ∧ (stT 102 ⟨Y.heap.size, 0, none⟩ (.agg (tzE (tyV l j)))).run Tryd.prog (Y.alloc (.cells #[.int .i64 0, .int .i64 0, .int .i64 0, .int .i64 0, .slice none 0 0, .int .i64 0, .int .i64 0] 102)) = .ok () Z ∧ Hid (Below X.heap.size X Z ∧ BA Z Y.heap.size 102 (tzE (tyV l j))) :=
  (typeAt_any X l s j (h.below hX)).mono fun e Y hh => by
    obtain ⟨Z, z1, z2, z3⟩ := stT_run (w := Y.alloc (.cells #[.int .i64 0, .int .i64 0, .int .i64 0, .int .i64 0, .slice none 0 0, .int .i64 0, .int .i64 0] 102)) (tzE (tyV l j)) (BA.new Y _ _) rfl (by kernel_rfl) (tz_one _)
    have bZ : Below Y.heap.size Y Z := ((Below.refl _ _).alloc (Nat.le_refl _) _).trans (z3.bel (by simp) (Nat.le_refl _))
    exact ⟨Z, hh.1, z1, hh.2.trans (bZ.mono hh.2.size), z2⟩
/-- The answer's place is filled. -/
theorem fill_new {w X : World} {ty : TypeId} {zs : Array Value} (cs : Array Value) (hX : Below (w.heap.size + 1) (w.alloc (.cells zs ty)) X) (hs : zs.size = cs.size) (hi : (Tryd.prog.info? ty).map (·.size) = some cs.size) (h1 : (cs.all fun x => x.oneCell') = true) : ∃ Z, (stT ty ⟨w.heap.size, 0, none⟩ (.agg cs)).run Tryd.prog X = .ok () Z ∧ Hid (BA Z w.heap.size ty cs ∧ Below w.heap.size w Z) := by
  have b0 : BA X w.heap.size ty zs := (hX.block _ (by omega)).trans (BA.new w ty zs)
  obtain ⟨Z, z1, z2, z3⟩ := stT_run cs b0 hs hi h1
  have b1 : Below w.heap.size w X := ((Below.refl _ _).alloc (Nat.le_refl _) _).trans (hX.mono (by omega))
  exact ⟨Z, z1, z2, b1.trans (z3.bel b1.size (Nat.le_refl _))⟩
set_option maxHeartbeats 8000000 in
set_option maxRecDepth 20000 in
theorem thing_any (w : World) (l : List Tz) (s : Sl) (i many : Int) (h : RdV w 7 s l.length (flat tzE l)) (hm : many = 8 ∨ many = 9) : Calls Tryd.prog 76 #[.slice s.a s.n s.c, .int .i64 i, .int .i64 many] w fun e w' => e = .returned (.tuple #[.agg (vEnc (thV l i many)), .bool (thB l i many)]) ∧ Below w.heap.size w w' := by
  have hb0 : Below w.heap.size w (w.alloc (.cells #[.string ⟨#[]⟩, .int .i64 0, .int .i64 0, .bool false, .bool false] 69)) := (Below.refl _ _).alloc (Nat.le_refl _) _
  have T1 := hid_of (typeAt_box w (w.alloc (.cells #[.string ⟨#[]⟩, .int .i64 0, .int .i64 0, .bool false, .bool false] 69)) l s h hb0 i)
  have T2 : Hid (∀ X j, Below w.heap.size w X → Calls Tryd.prog 94 #[.slice s.a s.n s.c, .int .i64 j] X _) := hid_of fun X j hX => typeAt_box w X l s h hX j
  have FN : Hid (∀ X (y : Vr), Below (w.heap.size + 1) (w.alloc (.cells #[.string ⟨#[]⟩, .int .i64 0, .int .i64 0, .bool false, .bool false] 69)) X → _) := hid_of fun X y hX => fill_new (ty := 69) (vEnc y) hX rfl (by kernel_rfl) (vr_one _)
  clear h hb0
  have hV1 : tyB l i = true ∧ (tyV l i).fm = many → thV l i many = ⟨⟨#[]⟩, (tyV l (tyV l i).el).fm, if many = 8 then (tyV l i).ln else 0, decide (many = 9), false⟩ ∧ thB l i many = tyB l (tyV l i).el := fun hc => by
    unfold thV thB
    exact ⟨if_pos hc, if_pos hc⟩
  have hV2 : ¬ (tyB l i = true ∧ (tyV l i).fm = many) → thV l i many = ⟨⟨#[]⟩, (tyV l i).fm, 0, false, false⟩ ∧ thB l i many = tyB l i := fun hc => by
    unfold thV thB
    exact ⟨if_neg hc, if_neg hc⟩
  generalize thV l i many = tv at *
  generalize thB l i many = tb at *
  generalize tyV l i = t at *
  generalize tyB l i = b at *
  have B0 : Hid (∀ X, Below (w.alloc (.cells #[.string ⟨#[]⟩, .int .i64 0, .int .i64 0, .bool false, .bool false] 69)).heap.size (w.alloc (.cells #[.string ⟨#[]⟩, .int .i64 0, .int .i64 0, .bool false, .bool false] 69)) X → Below (w.heap.size + 1) (w.alloc (.cells #[.string ⟨#[]⟩, .int .i64 0, .int .i64 0, .bool false, .bool false] 69)) X) := hid_of fun X hX => hX.mono (by simp)
  cases b
  · obtain ⟨rfl, rfl⟩ := hV2 (by simp)
    clear hV1 hV2
    go_enter Tryd.func76, Tryd.ntmps76
    go_wp2_with (go_at_call 94; refine T1.out.mono ?_; rintro e w1 ⟨Z1, rfl, z1, H1⟩; have c0 : Z1.cell? ⟨w1.heap.size, 0, none⟩ = some (.int .i64 t.fm) := H1.out.2.cell 0; have c1 : Z1.cell? ⟨w1.heap.size, 1, none⟩ = some (.int .i64 t.ln) := H1.out.2.cell 1; have c2 : Z1.cell? ⟨w1.heap.size, 2, none⟩ = some (.int .i64 t.el) := H1.out.2.cell 2; obtain ⟨Zr, zr, HZ⟩ := FN.out Z1 ⟨⟨#[]⟩, t.fm, 0, false, false⟩ (B0.out _ H1.out.1); simp only [vEnc] at zr)
    refine ret_cell_tmp (p := 6) (q := 7) rfl rfl (load_blk HZ.out.1 Tryd.underlying69 rfl (by kernel_rfl)) rfl ?_
    exact ⟨rfl, HZ.out.2⟩
  by_cases hf : t.fm = many
  rotate_left
  · have d1 : (t.fm != many) = true := by simpa using hf
    have d2 : decide (t.fm = many) = false := decide_eq_false hf
    have HF := hid_of hf
    clear hf
    obtain ⟨rfl, rfl⟩ := hV2 (fun e => HF.out e.2)
    clear hV1 hV2
    go_enter Tryd.func76, Tryd.ntmps76
    go_wp2_with (go_at_call 94; refine T1.out.mono ?_; rintro e w1 ⟨Z1, rfl, z1, H1⟩; have c0 : Z1.cell? ⟨w1.heap.size, 0, none⟩ = some (.int .i64 t.fm) := H1.out.2.cell 0; have c1 : Z1.cell? ⟨w1.heap.size, 1, none⟩ = some (.int .i64 t.ln) := H1.out.2.cell 1; have c2 : Z1.cell? ⟨w1.heap.size, 2, none⟩ = some (.int .i64 t.el) := H1.out.2.cell 2; obtain ⟨Zr, zr, HZ⟩ := FN.out Z1 ⟨⟨#[]⟩, t.fm, 0, false, false⟩ (B0.out _ H1.out.1); simp only [vEnc] at zr)
    refine ret_cell_tmp (p := 6) (q := 7) rfl rfl (load_blk HZ.out.1 Tryd.underlying69 rfl (by kernel_rfl)) rfl ?_
    exact ⟨rfl, HZ.out.2⟩
  obtain ⟨rfl, rfl⟩ := hV1 ⟨rfl, hf⟩
  clear hV1 hV2
  have T3 := hid_of fun X hX => T2.out X t.el hX
  generalize tyV l t.el = u at *
  generalize tyB l t.el = b2 at *
  have W1 : Hid (∀ X, Below (w.alloc (.cells #[.string ⟨#[]⟩, .int .i64 0, .int .i64 0, .bool false, .bool false] 69)).heap.size (w.alloc (.cells #[.string ⟨#[]⟩, .int .i64 0, .int .i64 0, .bool false, .bool false] 69)) X → Below w.heap.size w X) := hid_of fun X hX => ((Below.refl _ _).alloc (Nat.le_refl _) _).trans (hX.mono (by simp))
  clear T2
  rcases hm with rfl | rfl
  · rw [show (⟨⟨#[]⟩, u.fm, if (8 : Int) = 8 then t.ln else 0, decide ((8 : Int) = 9), false⟩ : Vr) = ⟨⟨#[]⟩, u.fm, t.ln, false, false⟩ by simp]
    have d1 : (t.fm != 8) = false := by rw [hf]; rfl
    have d2 : decide (t.fm = 8) = true := decide_eq_true hf
    clear hf
    go_enter Tryd.func76, Tryd.ntmps76
    go_wp2_with (first
      | (have hx := H1; clear hx; go_at_call 94; refine (T3.out _ (W1.out _ H1.out.1)).mono ?_; rintro e w2 ⟨Z2, rfl, z2, H2⟩; have d0 : Z2.cell? ⟨w2.heap.size, 0, none⟩ = some (.int .i64 u.fm) := H2.out.2.cell 0; have k1 : Z2.cell? ⟨w1.heap.size, 1, none⟩ = some (.int .i64 t.ln) := (H1.out.2.below H2.out.1).cell 1; obtain ⟨Z3, z3, z4, z5⟩ := stT_run (w := Z2.alloc (.cells #[.string ⟨#[]⟩, .int .i64 0, .int .i64 0, .bool false, .bool false] 69)) (vEnc ⟨⟨#[]⟩, u.fm, 0, false, false⟩) (BA.new Z2 69 #[.string ⟨#[]⟩, .int .i64 0, .int .i64 0, .bool false, .bool false]) rfl (by kernel_rfl) (vr_one _); simp only [vEnc] at z3 z4; have b3 : Below Z2.heap.size Z2 Z3 := ((Below.refl _ _).alloc (Nat.le_refl _) _).trans (z5.bel (by simp) (Nat.le_refl _)); have k3 : Z3.cell? ⟨w1.heap.size, 1, none⟩ = some (.int .i64 t.ln) := ((H1.out.2.below H2.out.1).below b3).cell 1; have k4 : Z3.cell? ⟨Z2.heap.size, 2, none⟩ = some (.int .i64 0) := z4.cell 2; have f4 : Z3.frozen? ⟨Z2.heap.size, 2, none⟩ = false := z4.fz 2; have k5 := ldT_run (z4.set (j := 2) (.int .i64 t.ln)) Tryd.underlying69 rfl (by kernel_rfl); simp only [List.setIfInBounds_toArray, List.set_cons_zero, List.set_cons_succ] at k5; have b4 : Below Z2.heap.size Z2 (Z3.setCell ⟨Z2.heap.size, 2, none⟩ (.int .i64 t.ln)) := b3.trans ((Tq.set (P := fun k => k = Z2.heap.size) rfl).bel b3.size (Nat.le_refl _)); obtain ⟨Zr, zr, HZ⟩ := FN.out _ ⟨⟨#[]⟩, u.fm, t.ln, false, false⟩ ((B0.out _ H1.out.1).trans ((H2.out.1.trans (b4.mono H2.out.1.size)).mono (Nat.le_trans (by simp) H1.out.1.size))); simp only [vEnc] at zr)
      | (go_at_call 94; refine T1.out.mono ?_; rintro e w1 ⟨Z1, rfl, z1, H1⟩; have c0 : Z1.cell? ⟨w1.heap.size, 0, none⟩ = some (.int .i64 t.fm) := H1.out.2.cell 0; have c1 : Z1.cell? ⟨w1.heap.size, 1, none⟩ = some (.int .i64 t.ln) := H1.out.2.cell 1; have c2 : Z1.cell? ⟨w1.heap.size, 2, none⟩ = some (.int .i64 t.el) := H1.out.2.cell 2))
    refine ret_cell_tmp (p := 6) (q := 7) rfl rfl (load_blk HZ.out.1 Tryd.underlying69 rfl (by kernel_rfl)) rfl ?_
    exact ⟨rfl, HZ.out.2⟩
  · rw [show (⟨⟨#[]⟩, u.fm, if (9 : Int) = 8 then t.ln else 0, decide ((9 : Int) = 9), false⟩ : Vr) = ⟨⟨#[]⟩, u.fm, 0, true, false⟩ by simp]
    have d1 : (t.fm != 9) = false := by rw [hf]; rfl
    have d2 : decide (t.fm = 9) = true := decide_eq_true hf
    clear hf
    go_enter Tryd.func76, Tryd.ntmps76
    go_wp2_with (first
      | (have hx := H1; clear hx; go_at_call 94; refine (T3.out _ (W1.out _ H1.out.1)).mono ?_; rintro e w2 ⟨Z2, rfl, z2, H2⟩; have d0 : Z2.cell? ⟨w2.heap.size, 0, none⟩ = some (.int .i64 u.fm) := H2.out.2.cell 0; have k1 : Z2.cell? ⟨w1.heap.size, 1, none⟩ = some (.int .i64 t.ln) := (H1.out.2.below H2.out.1).cell 1; obtain ⟨Z3, z3, z4, z5⟩ := stT_run (w := Z2.alloc (.cells #[.string ⟨#[]⟩, .int .i64 0, .int .i64 0, .bool false, .bool false] 69)) (vEnc ⟨⟨#[]⟩, u.fm, 0, true, false⟩) (BA.new Z2 69 #[.string ⟨#[]⟩, .int .i64 0, .int .i64 0, .bool false, .bool false]) rfl (by kernel_rfl) (vr_one _); simp only [vEnc] at z3 z4; have b3 : Below Z2.heap.size Z2 Z3 := ((Below.refl _ _).alloc (Nat.le_refl _) _).trans (z5.bel (by simp) (Nat.le_refl _)); have k3 : Z3.cell? ⟨w1.heap.size, 1, none⟩ = some (.int .i64 t.ln) := ((H1.out.2.below H2.out.1).below b3).cell 1; have k5 := ldT_run z4 Tryd.underlying69 rfl (by kernel_rfl); obtain ⟨Zr, zr, HZ⟩ := FN.out _ ⟨⟨#[]⟩, u.fm, 0, true, false⟩ ((B0.out _ H1.out.1).trans ((H2.out.1.trans (b3.mono H2.out.1.size)).mono (Nat.le_trans (by simp) H1.out.1.size))); simp only [vEnc] at zr)
      | (go_at_call 94; refine T1.out.mono ?_; rintro e w1 ⟨Z1, rfl, z1, H1⟩; have c0 : Z1.cell? ⟨w1.heap.size, 0, none⟩ = some (.int .i64 t.fm) := H1.out.2.cell 0; have c1 : Z1.cell? ⟨w1.heap.size, 1, none⟩ = some (.int .i64 t.ln) := H1.out.2.cell 1; have c2 : Z1.cell? ⟨w1.heap.size, 2, none⟩ = some (.int .i64 t.el) := H1.out.2.cell 2))
    refine ret_cell_tmp (p := 6) (q := 7) rfl rfl (load_blk HZ.out.1 Tryd.underlying69 rfl (by kernel_rfl)) rfl ?_
    exact ⟨rfl, HZ.out.2⟩
end Go.Proofs.YtcppgpcgbggdcaaDoor

namespace Go.Proofs.YtcppgpcgbggdcaaDoor
set_option linter.unusedVariables false
set_option linter.unusedSimpArgs false
open Go.ChangeShapes Go.WideShapes Go.ChangeAt Go.RowKit

/-- A variable, a procedure of a module (what is not asked of it lies in rows of which nothing is told). -/
structure Wv where
  nm : ByteArray
  ty : Int
  ex : Bool
  rf : Bool
def wvE (x : Wv) : Array Value := #[.string x.nm, .int .i64 x.ty, .bool x.ex, .bool x.rf]
structure Px where
  nm : ByteArray
  ex : Bool
  np : Int
  vl : Sl
  rs : Int
  bd : Sl
  ve : Sl
  vs : List Wv
def pxE (p : Px) : Array Value := #[.string p.nm, .bool p.ex, .int .i64 p.np, .slice p.vl.a p.vl.n p.vl.c, .int .i64 p.rs, .slice p.bd.a p.bd.n p.bd.c, .slice p.ve.a p.ve.n p.ve.c]
def zeroW : Array Value := #[.string ⟨#[]⟩, .int .i64 0, .bool false, .bool false]
def zeroX : Array Value := #[.string ⟨#[]⟩, .bool false, .int .i64 0, .slice none 0 0, .int .i64 0, .slice none 0 0, .slice none 0 0]
theorem wv_one (x : Wv) : ((wvE x).all fun x => x.oneCell') = true := by simp [wvE, Value.oneCell']
theorem px_one (x : Px) : ((pxE x).all fun x => x.oneCell') = true := by simp [pxE, Value.oneCell']
theorem ldW_seal (a : Addr) : loadVar 55 a = ldT 55 a := rfl
theorem stW_seal (a : Addr) (v : Value) : storeVar 55 a v = stT 55 a v := rfl
theorem ldX_seal (a : Addr) : loadVar 58 a = ldT 58 a := rfl
theorem stX_seal (a : Addr) (v : Value) : storeVar 58 a v = stT 58 a v := rfl
theorem ldM_seal (a : Addr) : loadVar 51 a = ldT 51 a := rfl
theorem stM_seal (a : Addr) (v : Value) : storeVar 51 a v = stT 51 a v := rfl
/-- What is shown of variables that are parameters, if there are such types. -/
def parO (l : List Tz) : List Wv → Option (List Vr)
  | [] => some []
  | v :: r => if thB l v.ty 9 then (parO l r).map ({ thV l v.ty 9 with rf := v.rf } :: ·) else none
def procO (l : List Tz) (p : Px) : Option Pc :=
  if p.np < 0 ∨ (p.vs.length : Int) < p.np ∨ 8 < p.np then none
  else (parO l (p.vs.take p.np.toNat)).bind fun ps => if p.rs = 0 then some ⟨p.nm, ps, 0⟩ else if tyB l p.rs then some ⟨p.nm, ps, (tyV l p.rs).fm⟩ else none
def varO (l : List Tz) : List Wv → Option (List Vr)
  | [] => some []
  | v :: r => if v.ex then (if thB l v.ty 8 then (varO l r).map ({ thV l v.ty 8 with nm := v.nm } :: ·) else none) else varO l r
def prcO (l : List Tz) : List Px → Option (List Pc)
  | [] => some []
  | p :: r => if p.ex then (procO l p).bind fun x => (prcO l r).map (x :: ·) else prcO l r
theorem flat_two {α : Type} (enc : α → Array Value) (a b : List α) : flat enc (a ++ b) = flat enc a ++ flat enc b := by simp [flat]
theorem flat_len {α : Type} (enc : α → Array Value) (k : Nat) (he : ∀ x, (enc x).size = k) : ∀ l : List α, (flat enc l).length = l.length * k
  | [] => by simp [flat]
  | c :: r => by
    have : flat enc (c :: r) = (enc c).toList ++ flat enc r := rfl
    rw [this, List.length_append, flat_len enc k he r, Array.length_toList, he, List.length_cons, Nat.add_mul]; omega
theorem RdV.take {α : Type} {X : World} {k : Nat} {s : Sl} {enc : α → Array Value} {l : List α} (h : RdV X k s l.length (flat enc l)) (he : ∀ x, (enc x).size = k) (n : Nat) (hn : n ≤ l.length) : RdV X k ⟨s.a, n, s.c⟩ (l.take n).length (flat enc (l.take n)) := by
  have hl : (l.take n).length = n := by rw [List.length_take]; omega
  have hmo := h.most
  refine ⟨hl.symm, flat_len enc k he _, by rw [hl]; omega, ?_⟩
  rw [hl]
  rcases h.at_ with h0 | ⟨g, off, h1, h2, h3⟩
  · exact .inl (by omega)
  · refine .inr ⟨g, off, h1, h2, fun j u hu => h3 j u ?_⟩
    have e : flat enc l = flat enc (l.take n) ++ flat enc (l.drop n) := by rw [← flat_two, List.take_append_drop]
    rw [e, List.getElem?_append_left (List.getElem?_eq_some_iff.1 hu).1]
    exact hu
/-- An element put behind a row of the call's own, however long. -/
theorem app_elW {X : World} {B n k by_ : Nat} {v : Value} {xs : List Value} {ts e : TypeId} {i : TypeInfo} {z : Value} (ht : Tryd.prog.underlying ts = some (.slice e)) (hi : Tryd.prog.info? e = some i) (hz : i.zero = some z) (hsize : i.size = k) (hby : i.bytes = by_) (hzs : z.cells.size = k) (hk : 0 < k) (cs : Array Value) (hcs : cs.size = k) (h1 : ∀ u ∈ cs.toList, u.oneCell' = true) (h : X.ownsRow B e k v n xs) (hB : B ≤ X.heap.size) (hn : n ≤ 140737488355328) (hb : ((n + 1) + (n + 1) / 4 + 192) * by_ ≤ 281474976710656) :
    ∃ (s : Sl) (Y : World), (appN #[ts, ts] ts #[v, .slice (some ⟨X.heap.size, 0, none⟩) 1 1]).run Tryd.prog (X.alloc (.cells cs e)) = .ok (.slice s.a s.n s.c) Y ∧ Y.ownsRow B e k (.slice s.a s.n s.c) (n + 1) (xs ++ cs.toList) ∧ (X.alloc (.cells cs e)).grownBy Y v.ownBlock := by
  have hbl : (X.alloc (.cells cs e)).ownsRow B e k v n xs := h.alloc _
  obtain ⟨v', Y, r1, r2, r3, _⟩ := run_append_own_wide (P := Tryd.prog) (w := X.alloc (.cells cs e)) B ts ts e i z k by_ ht hi hz hsize hby hzs hk v n xs hbl ⟨X.heap.size, 0, none⟩ 1 1 cs.toList (by rw [Array.length_toList, hcs, Nat.one_mul]) (fun j u hu => by
    have hbk : (X.alloc (.cells cs e)).heap[X.heap.size]? = some (.cells cs e (0, 0)) := blk_new _ _
    rw [Go.WideShapes.add_plain, Nat.zero_add, blk_cell hbk]
    simpa using hu) h1 (by unfold maxLen; omega) hb (by simp; omega)
  obtain ⟨va, vn, vc, rfl⟩ := own_slice r2
  exact ⟨⟨va, vn, vc⟩, Y, r1, r2, r3⟩
theorem own_boxH {X : World} {B g : Nat} {E ty : TypeId} {k : Nat} {v : Value} {n : Nat} {xs : List Value} {cs : Array Value} (h : X.ownsRow B E k v n xs) (hb : BA X g ty cs) (hne : ty ≠ E) {q : Nat} (hq : v.ownBlock = some q) : q ≠ g := by
  rcases h.2 with ⟨hv, h0⟩ | ⟨g', cap, cur, hv, hB, hh, _⟩
  · rw [hv] at hq; cases hq
  · rw [hv] at hq
    simp [Value.ownBlock] at hq
    subst hq
    rintro rfl
    unfold BA at hb
    rw [hh] at hb
    injection hb with hb
    injection hb with _ hb _
    exact hne hb.symm
theorem own_nilH (X : World) (B : Nat) (e : TypeId) (k : Nat) : X.ownsRow B e k (.slice none 0 0) 0 [] := ⟨by simp, .inl ⟨rfl, rfl⟩⟩
/-- A row in a field of a box grows by one. -/
theorem app_box {X : World} {B ob n k by_ j : Nat} {xs : List Value} {ty ts E : TypeId} {i : TypeInfo} {z : Value} {sl : Sl} {cs : Array Value} (hx : BA X ob ty cs) (hob : ob < B) (hj : cs[j]? = some (.slice sl.a sl.n sl.c)) (ht : Tryd.prog.underlying ts = some (.slice E)) (hi : Tryd.prog.info? E = some i) (hz : i.zero = some z) (hsize : i.size = k) (hby : i.bytes = by_) (hzs : z.cells.size = k) (hk : 0 < k) (es : Array Value) (hes : es.size = k) (h1 : ∀ u ∈ es.toList, u.oneCell' = true) (h : X.ownsRow B E k (.slice sl.a sl.n sl.c) n xs) (hB : B ≤ X.heap.size) (hn : n ≤ 140737488355328) (hb : ((n + 1) + (n + 1) / 4 + 192) * by_ ≤ 281474976710656) :
    ∃ (s' : Sl) (Y : World), (appN #[ts, ts] ts #[.slice sl.a sl.n sl.c, .slice (some ⟨X.heap.size, 0, none⟩) 1 1]).run Tryd.prog (X.alloc (.cells es E)) = .ok (.slice s'.a s'.n s'.c) Y ∧ Y.cell? ⟨ob, j, none⟩ = some (.slice sl.a sl.n sl.c) ∧ Y.frozen? ⟨ob, j, none⟩ = false ∧ X.cell? ⟨ob, j, none⟩ = some (.slice sl.a sl.n sl.c) ∧ (X.alloc (.cells es E)).cell? ⟨ob, j, none⟩ = some (.slice sl.a sl.n sl.c) ∧ Hid (BA (Y.setCell ⟨ob, j, none⟩ (.slice s'.a s'.n s'.c)) ob ty (cs.setIfInBounds j (.slice s'.a s'.n s'.c)) ∧ (Y.setCell ⟨ob, j, none⟩ (.slice s'.a s'.n s'.c)).ownsRow B E k (.slice s'.a s'.n s'.c) (n + 1) (xs ++ es.toList) ∧ Tq X (Y.setCell ⟨ob, j, none⟩ (.slice s'.a s'.n s'.c)) (fun y => y = ob ∨ (Value.slice sl.a sl.n sl.c).ownBlock = some y)) := by
  obtain ⟨s', Y, r1, r2, r3⟩ := app_elW ht hi hz hsize hby hzs hk es hes h1 h hB hn hb
  have hA : BA (X.alloc (.cells es E)) ob ty cs := hx.below ((Below.refl _ _).alloc (Nat.le_refl _) _)
  have tY : Tq (X.alloc (.cells es E)) Y (fun g => (Value.slice sl.a sl.n sl.c).ownBlock = some g) := Tq.gb r3 fun k e => e
  have hlo : ∀ g, (Value.slice sl.a sl.n sl.c).ownBlock = some g → B ≤ g := fun g hg => own_lo h g hg
  have oY : BA Y ob ty cs := hA.tq tY (fun e => by have := hlo ob e; omega)
  have tS : Tq Y (Y.setCell ⟨ob, j, none⟩ (.slice s'.a s'.n s'.c)) (fun g => g = ob) := Tq.set rfl
  refine ⟨s', Y, r1, (oY.cell j).trans hj, oY.fz j, (hx.cell j).trans hj, (hA.cell j).trans hj, oY.set _, tS.own r2 (fun g hg => by have := own_lo r2 g hg; omega), ?_⟩
  exact ((Tq.below (P := fun y => y = ob ∨ (Value.slice sl.a sl.n sl.c).ownBlock = some y) ((Below.refl _ _).alloc (Nat.le_refl _) _)).trans (tY.mono fun k _ e => .inr e)).trans (tS.mono fun k _ e => .inl e)
end Go.Proofs.YtcppgpcgbggdcaaDoor

namespace Go.Proofs.YtcppgpcgbggdcaaDoor
set_option linter.unusedVariables false
set_option linter.unusedSimpArgs false
open Go.ChangeShapes Go.WideShapes Go.ChangeAt Go.RowKit
attribute [local go_sem ↓] ldV_seal stV_seal ldY_seal stY_seal ldP_seal stP_seal ldW_seal stW_seal ldX_seal stX_seal appN_seal

/-- A place that is new is filled. -/
theorem fill_at {w X : World} {ty : TypeId} {rs : Nat} {zs : Array Value} (cs : Array Value) (h0 : BA X rs ty zs) (hX : Below w.heap.size w X) (hr : w.heap.size ≤ rs) (hs : zs.size = cs.size) (hi : (Tryd.prog.info? ty).map (·.size) = some cs.size) (h1 : (cs.all fun x => x.oneCell') = true) : ∃ Z, (stT ty ⟨rs, 0, none⟩ (.agg cs)).run Tryd.prog X = .ok () Z ∧ Hid (BA Z rs ty cs ∧ Below w.heap.size w Z ∧ Tq X Z (fun k => k = rs)) := by
  obtain ⟨Z, z1, z2, z3⟩ := stT_run cs h0 hs hi h1
  exact ⟨Z, z1, z2, hX.trans (z3.bel hX.size hr), z3⟩
theorem pe_one (x : Pc × Sl) : ((pEnc x).all fun x => x.oneCell') = true := by simp [pEnc, Value.oneCell']
theorem below_tqH {w X Y : World} {P : Nat → Prop} (h : Below w.heap.size w X) (t : Tq X Y P) (hp : ∀ k, k < w.heap.size → ¬ P k) : Below w.heap.size w Y := ⟨t.os.trans h.os, t.tape.trans h.tape, t.output.trans h.output, Nat.le_trans h.size t.size, fun k hk => (t.blk k (Nat.lt_of_lt_of_le hk h.size) (hp k hk)).trans (h.block k hk)⟩
/-- While a procedure is looked at: itself, the answer's place, what is shown of it. -/
structure HP (w X : World) (p : Px) (cs : Array Value) : Prop where
  pb : BA X w.heap.size 58 (pxE p)
  rz : BA X (w.heap.size + 1) 63 #[.string ⟨#[]⟩, .slice none 0 0, .int .i64 0]
  bx : BA X (w.heap.size + 2) 63 cs
  be : Below w.heap.size w X
theorem HP.lt {w X : World} {p : Px} {cs : Array Value} (h : HP w X p cs) : w.heap.size + 3 ≤ X.heap.size := h.bx.lt
theorem HP.below {w X Y : World} {p : Px} {cs : Array Value} (h : HP w X p cs) (hb : Below X.heap.size X Y) : HP w Y p cs := ⟨h.pb.below hb, h.rz.below hb, h.bx.below hb, h.be.trans (hb.mono h.be.size)⟩
theorem HP.tq {w X Y : World} {p : Px} {cs cs' : Array Value} {P : Nat → Prop} (h : HP w X p cs) (hb : BA Y (w.heap.size + 2) 63 cs') (t : Tq X Y P) (hP : ∀ k, P k → k = w.heap.size + 2 ∨ w.heap.size + 3 ≤ k) : HP w Y p cs' :=
  ⟨h.pb.tq t (fun e => by have := hP _ e; omega), h.rz.tq t (fun e => by have := hP _ e; omega), hb, below_tqH h.be t fun k hk e => by have := hP _ e; omega⟩
theorem HP.start (w : World) (p : Px) : ∃ Z, (stT 63 ⟨w.heap.size + 2, 0, none⟩ (.agg #[.string p.nm, .slice none 0 0, .int .i64 0])).run Tryd.prog (((w.alloc (.cells #[.string p.nm, .bool p.ex, .int .i64 p.np, .slice p.vl.a p.vl.n p.vl.c, .int .i64 p.rs, .slice p.bd.a p.bd.n p.bd.c, .slice p.ve.a p.ve.n p.ve.c] 58)).alloc (.cells #[.string ⟨#[]⟩, .slice none 0 0, .int .i64 0] 63)).alloc (.cells #[.string ⟨#[]⟩, .slice none 0 0, .int .i64 0] 63)) = .ok () Z ∧ Hid (HP w Z p #[.string p.nm, .slice none 0 0, .int .i64 0]) := by
  have e1 : (w.alloc (.cells (pxE p) 58)).heap.size = w.heap.size + 1 := by simp
  have e2 : ((w.alloc (.cells (pxE p) 58)).alloc (.cells #[.string ⟨#[]⟩, .slice none 0 0, .int .i64 0] 63)).heap.size = w.heap.size + 2 := by simp
  have b1 := BA.new w 58 (pxE p)
  have b2 := BA.new (w.alloc (.cells (pxE p) 58)) 63 #[.string ⟨#[]⟩, .slice none 0 0, .int .i64 0]
  rw [e1] at b2
  have b3 := BA.new ((w.alloc (.cells (pxE p) 58)).alloc (.cells #[.string ⟨#[]⟩, .slice none 0 0, .int .i64 0] 63)) 63 #[.string ⟨#[]⟩, .slice none 0 0, .int .i64 0]
  rw [e2] at b3
  have c1 := (b1.below ((Below.refl _ _).alloc (Nat.le_refl _) (.cells #[.string ⟨#[]⟩, .slice none 0 0, .int .i64 0] 63))).below ((Below.refl _ _).alloc (Nat.le_refl _) (.cells #[.string ⟨#[]⟩, .slice none 0 0, .int .i64 0] 63))
  have c2 := b2.below ((Below.refl _ _).alloc (Nat.le_refl _) (.cells #[.string ⟨#[]⟩, .slice none 0 0, .int .i64 0] 63))
  obtain ⟨Z, z1, z2, z3⟩ := stT_run (pEnc (⟨p.nm, [], 0⟩, ⟨none, 0, 0⟩)) b3 rfl (by kernel_rfl) (pe_one _)
  exact ⟨Z, z1, c1.tq z3 (by omega), c2.tq z3 (by omega), z2, (by go_grown : Below w.heap.size w (((w.alloc (.cells (pxE p) 58)).alloc (.cells #[.string ⟨#[]⟩, .slice none 0 0, .int .i64 0] 63)).alloc (.cells #[.string ⟨#[]⟩, .slice none 0 0, .int .i64 0] 63))).trans (z3.bel (by simp; omega) (by omega))⟩
theorem own_belowH {X Y : World} {B : Nat} {e : TypeId} {k : Nat} {v : Value} {n : Nat} {xs : List Value} (h : X.ownsRow B e k v n xs) (hb : Below X.heap.size X Y) : Y.ownsRow B e k v n xs := (Tq.below (P := fun _ => False) hb).own h (fun _ _ e => e)
def PostSp (w : World) (l : List Tz) (p : Px) (e : Ending) (w' : World) : Prop := ∃ (x : Pc) (sl : Sl) (ok : Bool), e = .returned (.tuple #[.agg #[.string x.nm, .slice sl.a sl.n sl.c, .int .i64 x.rs], .bool ok]) ∧ Below w.heap.size w w' ∧ (procO l p = if ok then some x else none) ∧ (ok = true → w'.ownsRow w.heap.size 69 5 (.slice sl.a sl.n sl.c) x.ps.length (flat vEnc x.ps))
theorem sp_none {w w' : World} {l : List Tz} {p : Px} (h : procO l p = none) (hb : Below w.heap.size w w') : PostSp w l p (.returned (.tuple #[.agg #[.string ⟨#[]⟩, .slice none 0 0, .int .i64 0], .bool false])) w' := ⟨⟨⟨#[]⟩, [], 0⟩, ⟨none, 0, 0⟩, false, rfl, hb, h, fun e => by cases e⟩
theorem info_par4 : (Tryd.prog.info? 69).map (fun i => (i.zero, i.size, i.bytes)) = some (some (.agg #[.string ⟨#[]⟩, .int .i64 0, .int .i64 0, .bool false, .bool false]), 5, 40) := by kernel_rfl
set_option maxHeartbeats 4000000 in
set_option maxRecDepth 20000 in
theorem sproc_no (w : World) (l : List Tz) (s : Sl) (p : Px) (hno : p.np < 0 ∨ (p.vs.length : Int) < p.np ∨ 8 < p.np) (hn : p.vl.n = p.vs.length) : Calls Tryd.prog 77 #[.slice s.a s.n s.c, .agg #[.string p.nm, .bool p.ex, .int .i64 p.np, .slice p.vl.a p.vl.n p.vl.c, .int .i64 p.rs, .slice p.bd.a p.bd.n p.bd.c, .slice p.ve.a p.ve.n p.ve.c]] w (PostSp w l p) := by
  have hO : procO l p = none := by unfold procO; rw [if_pos hno]
  have e1 : (w.alloc (.cells #[.string p.nm, .bool p.ex, .int .i64 p.np, .slice p.vl.a p.vl.n p.vl.c, .int .i64 p.rs, .slice p.bd.a p.bd.n p.bd.c, .slice p.ve.a p.ve.n p.ve.c] 58)).heap.size = w.heap.size + 1 := by simp
  have b1 := (BA.new w 58 #[.string p.nm, .bool p.ex, .int .i64 p.np, .slice p.vl.a p.vl.n p.vl.c, .int .i64 p.rs, .slice p.bd.a p.bd.n p.bd.c, .slice p.ve.a p.ve.n p.ve.c]).below ((Below.refl _ _).alloc (Nat.le_refl _) (.cells #[.string ⟨#[]⟩, .slice none 0 0, .int .i64 0] 63))
  have b2 := BA.new (w.alloc (.cells #[.string p.nm, .bool p.ex, .int .i64 p.np, .slice p.vl.a p.vl.n p.vl.c, .int .i64 p.rs, .slice p.bd.a p.bd.n p.bd.c, .slice p.ve.a p.ve.n p.ve.c] 58)) 63 #[.string ⟨#[]⟩, .slice none 0 0, .int .i64 0]
  rw [e1] at b2
  obtain ⟨Z, hst, HZ⟩ := fill_at (w := w) #[.string ⟨#[]⟩, .slice none 0 0, .int .i64 0] b2 (by go_grown) (by omega) rfl (by kernel_rfl) (pe_one (⟨⟨#[]⟩, [], 0⟩, ⟨none, 0, 0⟩))
  clear e1
  rw [← hn] at hno
  by_cases h1 : p.np < 0
  · have d1 : decide (p.np < 0) = true := decide_eq_true h1
    clear hno hn b1 b2
    go_enter Tryd.func77, Tryd.ntmps77
    go_wp2
    refine ret_cell_tmp (p := 4) (q := 5) rfl rfl (load_blk HZ.out.1 Tryd.underlying63 rfl (by kernel_rfl)) rfl ?_
    exact sp_none hO HZ.out.2.1
  have d1 : decide (p.np < 0) = false := decide_eq_false h1
  by_cases h2 : (p.vl.n : Int) < p.np
  · have d2 : decide ((p.vl.n : Int) < p.np) = true := decide_eq_true h2
    clear hno hn b1 b2
    go_enter Tryd.func77, Tryd.ntmps77
    go_wp2
    refine ret_cell_tmp (p := 4) (q := 5) rfl rfl (load_blk HZ.out.1 Tryd.underlying63 rfl (by kernel_rfl)) rfl ?_
    exact sp_none hO HZ.out.2.1
  have d2 : decide ((p.vl.n : Int) < p.np) = false := decide_eq_false h2
  have d3 : decide (8 < p.np) = true := decide_eq_true (by omega)
  clear hno hn b1 b2
  go_enter Tryd.func77, Tryd.ntmps77
  go_wp2
  refine ret_cell_tmp (p := 4) (q := 5) rfl rfl (load_blk HZ.out.1 Tryd.underlying63 rfl (by kernel_rfl)) rfl ?_
  exact sp_none hO HZ.out.2.1
set_option maxHeartbeats 16000000 in
set_option maxRecDepth 20000 in
theorem sproc_yes (w : World) (l : List Tz) (s : Sl) (p : Px) (h : RdV w 7 s l.length (flat tzE l)) (hp : RdV w 4 p.vl p.vs.length (flat wvE p.vs)) (hc : p.vl.n ≤ p.vl.c) (n : Nat) (hnp : p.np = (n : Int)) (hn : n ≤ p.vs.length) (h8 : n ≤ 8) : Calls Tryd.prog 77 #[.slice s.a s.n s.c, .agg #[.string p.nm, .bool p.ex, .int .i64 p.np, .slice p.vl.a p.vl.n p.vl.c, .int .i64 p.rs, .slice p.bd.a p.bd.n p.bd.c, .slice p.ve.a p.ve.n p.ve.c]] w (PostSp w l p) := by
  have hO : procO l p = (parO l (p.vs.take n)).bind fun ps => if p.rs = 0 then some ⟨p.nm, ps, 0⟩ else if tyB l p.rs then some ⟨p.nm, ps, (tyV l p.rs).fm⟩ else none := by
    unfold procO
    rw [if_neg (by omega), hnp, Int.toNat_natCast]
  have hR := hp.take (fun _ => rfl) n hn
  have hlen := hp.len
  have hLn : (p.vs.take n).length = n := by rw [List.length_take]; omega
  obtain ⟨L, hL⟩ : ∃ L, L = p.vs.take n := ⟨_, rfl⟩
  rw [← hL] at hO hR hLn
  have HO := hid_of hO
  have HR := hid_of hR
  have TH : Hid (∀ X i, Below w.heap.size w X → Calls Tryd.prog 76 #[.slice s.a s.n s.c, .int .i64 i, .int .i64 9] X fun e Y => ∃ Z, e = .returned (.tuple #[.agg #[.string (thV l i 9).nm, .int .i64 (thV l i 9).fm, .int .i64 (thV l i 9).ln, .bool (thV l i 9).op, .bool (thV l i 9).rf], .bool (thB l i 9)]) ∧ (stT 69 ⟨Y.heap.size, 0, none⟩ (.agg #[.string (thV l i 9).nm, .int .i64 (thV l i 9).fm, .int .i64 (thV l i 9).ln, .bool (thV l i 9).op, .bool (thV l i 9).rf])).run Tryd.prog (Y.alloc (.cells #[.string ⟨#[]⟩, .int .i64 0, .int .i64 0, .bool false, .bool false] 69)) = .ok () Z ∧ Hid (Below X.heap.size X Z ∧ BA Z Y.heap.size 69 (vEnc (thV l i 9)) ∧ X.heap.size ≤ Y.heap.size)) := hid_of fun X i hX => (thing_any X l s i 9 (h.below hX) (.inr rfl)).mono fun e Y hh => by
    obtain ⟨Z, z1, z2, z3⟩ := stT_run (w := Y.alloc (.cells #[.string ⟨#[]⟩, .int .i64 0, .int .i64 0, .bool false, .bool false] 69)) (vEnc (thV l i 9)) (BA.new Y _ _) rfl (by kernel_rfl) (vr_one _)
    have bZ : Below Y.heap.size Y Z := ((Below.refl _ _).alloc (Nat.le_refl _) _).trans (z3.bel (by simp) (Nat.le_refl _))
    exact ⟨Z, hh.1, z1, hh.2.trans (bZ.mono hh.2.size), z2, hh.2.size⟩
  have TA : Hid (∀ X j, Below w.heap.size w X → Calls Tryd.prog 94 #[.slice s.a s.n s.c, .int .i64 j] X _) := hid_of fun X j hX => typeAt_box w X l s h hX j
  obtain ⟨Z0, z0, H0⟩ := HP.start w p
  have H1 := hid_of (And.intro H0.out (own_nilH Z0 (w.heap.size + 3) 69 5))
  have k2 : Z0.cell? ⟨w.heap.size, 2, none⟩ = some (.int .i64 (n : Int)) := by rw [H0.out.pb.cell 2]; show some (Value.int .i64 p.np) = _; rw [hnp]
  have k3 : Z0.cell? ⟨w.heap.size, 3, none⟩ = some (.slice p.vl.a p.vl.n p.vl.c) := H0.out.pb.cell 3
  have d1 : decide ((n : Int) < 0) = false := decide_eq_false (by omega)
  have d2 : decide ((p.vl.n : Int) < (n : Int)) = false := decide_eq_false (by omega)
  have d2n : decide (p.vl.n < n) = false := decide_eq_false (by omega)
  have d2m : ¬ p.vl.n < n := by omega
  have d3 : decide (8 < (n : Int)) = false := decide_eq_false (by omega)
  have d3n : ¬ 8 < n := by omega
  have i0 : (0 : Int) ≤ (n : Int) := by omega
  have i1 : (n : Int) ≤ (p.vl.c : Int) := by omega
  have i2 : n ≤ p.vl.c := by omega
  rw [hnp] at z0 ⊢
  clear hR hO hL hp h H0 hlen hnp
  generalize p.vl.a = va at HR z0 k3 ⊢
  go_enter Tryd.func77, Tryd.ntmps77
  go_upto_block 0 with fail
  go_cut [39] (fun s_ X => ∃ (acc : List Vr) (sl : Sl), Hid ((HP w X p #[.string p.nm, .slice sl.a sl.n sl.c, .int .i64 0] ∧ X.ownsRow (w.heap.size + 3) 69 5 (.slice sl.a sl.n sl.c) acc.length (flat vEnc acc)) ∧ parO l L = some acc))
  case first =>
    go_wp2_with fail
    go_loopg [39] n (fun gf s_ wx => ∃ (i : Nat) (acc : List Vr) (sl : Sl), s_ = .int .i64 (i : Int) ∧ i + gf = n ∧ Hid ((HP w wx p #[.string p.nm, .slice sl.a sl.n sl.c, .int .i64 0] ∧ wx.ownsRow (w.heap.size + 3) 69 5 (.slice sl.a sl.n sl.c) acc.length (flat vEnc acc)) ∧ parO l L = (parO l (L.drop i)).map (acc ++ ·) ∧ acc.length = i))
    case atStart => exact ⟨0, [], ⟨none, 0, 0⟩, rfl, by omega, ⟨H1.out.1, H1.out.2⟩, by cases hh : parO l L <;> simp [hh], rfl⟩
    case round =>
      clear H1 z0 k2 k3
      obtain ⟨i, acc, sl, rfl, hi, HL⟩ := hrel
      by_cases hlt : i < n
      rotate_left
      · have e1 : decide ((i : Int) < (n : Int)) = false := decide_eq_false (by omega)
        have FF : Hid ((HP w wr p #[.string p.nm, .slice sl.a sl.n sl.c, .int .i64 0] ∧ wr.ownsRow (w.heap.size + 3) 69 5 (.slice sl.a sl.n sl.c) acc.length (flat vEnc acc)) ∧ parO l L = some acc) := hid_of (by
          obtain ⟨q1, q2, q3⟩ := HL.out
          refine ⟨q1, ?_⟩
          rw [q2, List.drop_of_length_le (by omega)]
          simp [parO])
        clear HL
        go_wp2
        go_meet
        exact ⟨acc, sl, FF.out⟩
      have e1 : decide ((i : Int) < (n : Int)) = true := decide_eq_true (by omega)
      obtain ⟨g', rfl⟩ : ∃ g', gk = g' + 1 := ⟨gk - 1, by omega⟩
      have j0 : (0 : Int) ≤ (i : Int) := by omega
      have j1 : (i : Int) < (n : Int) := by omega
      have hiL : i < L.length := by omega
      obtain ⟨v, hv⟩ : ∃ v, v = L[i] := ⟨_, rfl⟩
      have hdr : L.drop i = v :: L.drop (i + 1) := by rw [hv]; exact List.drop_eq_getElem_cons hiL
      obtain ⟨g, off, hga, hg, hcl⟩ := (HR.out.below HL.out.1.1.be).elem (fun _ => rfl) i hiL
      rw [← hv] at hcl
      dsimp only at hga
      subst hga
      have hl0 := ldT_mid (ty := 55) hcl Tryd.underlying55 rfl (by kernel_rfl)
      obtain ⟨Z1, z1, z2, z3⟩ := stT_run (w := wr.alloc (.cells #[.string ⟨#[]⟩, .int .i64 0, .bool false, .bool false] 55)) (wvE v) (BA.new wr _ _) rfl (by kernel_rfl) (wv_one _)
      have b1 : Below wr.heap.size wr Z1 := ((Below.refl _ _).alloc (Nat.le_refl _) _).trans (z3.bel (by simp) (Nat.le_refl _))
      have c1 : Z1.cell? ⟨wr.heap.size, 1, none⟩ = some (.int .i64 v.ty) := z2.cell 1
      have PO := hid_of HL.out.2
      have V1 := hid_of (And.intro (HL.out.1.1.below b1) (And.intro (own_belowH HL.out.1.2 b1) z2))
      have TV := hid_of (TH.out Z1 v.ty V1.out.1.be)
      simp only [wvE] at hl0 z1
      clear HL hcl z2 z3 b1 hg hv
      obtain ⟨tv, htv⟩ : ∃ tv, thV l v.ty 9 = tv := ⟨_, rfl⟩
      have THV := htv
      rw [htv] at TV
      clear htv
      cases hok : thB l v.ty 9
      · rw [hok] at TV
        have NO : Hid (procO l p = none) := hid_of (by
          rw [HO.out, PO.out.1, hdr]
          simp [parO, hok])
        clear PO hok THV hdr
        go_wp2_with (go_at_call 76; refine TV.out.mono ?_; rintro e w2 ⟨Z2, rfl, x2, X2⟩; obtain ⟨Zr, zr, HZ⟩ := fill_at (w := w) #[.string ⟨#[]⟩, .slice none 0 0, .int .i64 0] (V1.out.1.rz.below X2.out.1) (V1.out.1.be.trans (X2.out.1.mono V1.out.1.be.size)) (by omega) rfl (by kernel_rfl) (pe_one (⟨⟨#[]⟩, [], 0⟩, ⟨none, 0, 0⟩)))
        refine ret_cell_tmp (p := 4) (q := 5) rfl rfl (load_blk HZ.out.1 Tryd.underlying63 rfl (by kernel_rfl)) rfl ?_
        exact sp_none NO.out HZ.out.2.1
      · rw [hok] at TV
        have NX : Hid (parO l L = (parO l (L.drop (i + 1))).map ((acc ++ [{ tv with rf := v.rf }]) ++ ·)) := hid_of (by
          rw [PO.out.1, hdr]
          simp only [parO, hok, if_true, THV]
          cases parO l (L.drop (i + 1)) <;> simp)
        have AC := hid_of PO.out.2
        clear PO hok hdr THV
        have AP : Hid (∀ X (y : Vr), HP w X p #[.string p.nm, .slice sl.a sl.n sl.c, .int .i64 0] ∧ X.ownsRow (w.heap.size + 3) 69 5 (.slice sl.a sl.n sl.c) acc.length (flat vEnc acc) → _) := hid_of fun X y hX => by
          obtain ⟨i0, hi0, hz0, hz1, hz2⟩ := info_parts info_par4
          exact app_box (ob := w.heap.size + 2) (j := 1) hX.1.bx (by omega) rfl Tryd.underlying23 hi0 hz0 hz1 hz2 rfl (by omega) (vEnc y) rfl (by intro u hu; simp [vEnc] at hu; rcases hu with rfl | rfl | rfl | rfl | rfl <;> rfl) hX.2 hX.1.lt (by have := AC.out; omega) (by have := AC.out; omega)
        go_wp2_with (go_at_call 76; refine TV.out.mono ?_; rintro e w2 ⟨Z2, rfl, x2, X2⟩; have m3 : Z2.cell? ⟨wr.heap.size, 3, none⟩ = some (.bool v.rf) := (V1.out.2.2.below X2.out.1).cell 3; have m4 : Z2.cell? ⟨w2.heap.size, 4, none⟩ = some (.bool tv.rf) := X2.out.2.1.cell 4; have f4 := X2.out.2.1.fz 4; have B3 := X2.out.2.1.set (j := 4) (.bool v.rf); have hs2 := V1.out.1.lt; have b3 : Below Z1.heap.size Z1 (Z2.setCell ⟨w2.heap.size, 4, none⟩ (.bool v.rf)) := X2.out.1.trans ((Tq.set (X := Z2) (P := fun k => k = w2.heap.size) rfl).bel X2.out.1.size X2.out.2.2); have l3 := ldT_run B3 Tryd.underlying69 rfl (by kernel_rfl); obtain ⟨s', Y, hrun, cY, fY, cX, cA, HNX⟩ := AP.out _ { tv with rf := v.rf } ⟨V1.out.1.below b3, own_belowH V1.out.2.1 b3⟩; rw [show (Z2.setCell ⟨w2.heap.size, 4, none⟩ (.bool v.rf)).heap.size = Z2.heap.size from (by simp)] at hrun; have b3 := hid_of b3; simp only [vEnc, List.setIfInBounds_toArray, List.set_cons_zero, List.set_cons_succ] at l3 hrun cA)
        go_roundg g'
        case measure => omega
        case rel =>
          obtain ⟨n1, n2, n3⟩ := HNX.out
          have hs2 := V1.out.1.lt
          exact ⟨i + 1, acc ++ [{ tv with rf := v.rf }], s', by simp, by omega, ⟨(V1.out.1.below b3.out).tq n1 n3 (fun k hk => by rcases hk with hk | hk; exact .inl hk; exact .inr (own_lo V1.out.2.1 k hk)), by rw [List.length_append, flat_snoc]; exact n2⟩, NX.out, by rw [List.length_append, AC.out]; rfl⟩
  case rest =>
    obtain ⟨acc, sl, HC⟩ := hcut
    clear H1 z0 k2 k3 TH
    have k4 : wc.cell? ⟨w.heap.size, 4, none⟩ = some (.int .i64 p.rs) := HC.out.1.1.pb.cell 4
    have hE : procO l p = if p.rs = 0 then some ⟨p.nm, acc, 0⟩ else if tyB l p.rs then some ⟨p.nm, acc, (tyV l p.rs).fm⟩ else none := by rw [HO.out, HC.out.2]; rfl
    have OW := hid_of HC.out.1.2
    have H2 := hid_of HC.out.1.1
    clear HC HO HR
    by_cases h0 : p.rs = 0
    · have e1 : (p.rs == 0) = true := by simpa using h0
      have e2 : decide (p.rs = 0) = true := decide_eq_true h0
      have HE : Hid (procO l p = some ⟨p.nm, acc, 0⟩) := hid_of (by rw [hE, if_pos h0])
      clear hE h0
      have l1 := ldT_run H2.out.bx Tryd.underlying63 rfl (by kernel_rfl)
      obtain ⟨Zr, zr, HZ⟩ := fill_at (w := w) #[.string p.nm, .slice sl.a sl.n sl.c, .int .i64 0] H2.out.rz H2.out.be (by omega) rfl (by kernel_rfl) (pe_one (⟨p.nm, [], 0⟩, sl))
      go_wp2
      refine ret_cell_tmp (p := 4) (q := 5) rfl rfl (load_blk HZ.out.1 Tryd.underlying63 rfl (by kernel_rfl)) rfl ?_
      exact ⟨⟨p.nm, acc, 0⟩, sl, true, rfl, HZ.out.2.1, by rw [HE.out]; rfl, fun _ => own_base (HZ.out.2.2.own OW.out (fun g hg e => by have := own_lo OW.out g hg; omega)) (by omega)⟩
    · have e1 : (p.rs == 0) = false := by simpa using h0
      have e2 : decide (p.rs = 0) = false := decide_eq_false h0
      have HE : Hid (procO l p = if tyB l p.rs then some ⟨p.nm, acc, (tyV l p.rs).fm⟩ else none) := hid_of (by rw [hE, if_neg h0])
      clear hE h0
      have T2 := hid_of (TA.out wc p.rs H2.out.be)
      generalize tyV l p.rs = t at *
      generalize tyB l p.rs = b at *
      have FN : Hid (∀ Z, Below wc.heap.size wc Z → Z.cell? ⟨w.heap.size + 2, 2, none⟩ = some (.int .i64 0) ∧ Z.frozen? ⟨w.heap.size + 2, 2, none⟩ = false ∧ (ldT 63 ⟨w.heap.size + 2, 0, none⟩).run Tryd.prog (Z.setCell ⟨w.heap.size + 2, 2, none⟩ (.int .i64 t.fm)) = .ok (.agg #[.string p.nm, .slice sl.a sl.n sl.c, .int .i64 t.fm]) (Z.setCell ⟨w.heap.size + 2, 2, none⟩ (.int .i64 t.fm)) ∧ ∃ Zr, (stT 63 ⟨w.heap.size + 1, 0, none⟩ (.agg #[.string p.nm, .slice sl.a sl.n sl.c, .int .i64 t.fm])).run Tryd.prog (Z.setCell ⟨w.heap.size + 2, 2, none⟩ (.int .i64 t.fm)) = .ok () Zr ∧ Hid (BA Zr (w.heap.size + 1) 63 #[.string p.nm, .slice sl.a sl.n sl.c, .int .i64 t.fm] ∧ Below w.heap.size w Zr ∧ Zr.ownsRow (w.heap.size + 3) 69 5 (.slice sl.a sl.n sl.c) acc.length (flat vEnc acc))) := hid_of fun Z hZ => by
        have q1 := H2.out.below hZ
        have q2 : HP w (Z.setCell ⟨w.heap.size + 2, 2, none⟩ (.int .i64 t.fm)) p #[.string p.nm, .slice sl.a sl.n sl.c, .int .i64 t.fm] := q1.tq (q1.bx.set (.int .i64 t.fm)) (Tq.set (P := fun k => k = w.heap.size + 2) rfl) (fun k hk => .inl hk)
        obtain ⟨Zr, zr, HZ⟩ := fill_at (w := w) #[.string p.nm, .slice sl.a sl.n sl.c, .int .i64 t.fm] q2.rz q2.be (by omega) rfl (by kernel_rfl) (pe_one (⟨p.nm, [], t.fm⟩, sl))
        have o1 := own_belowH OW.out hZ
        have o2 := (Tq.set (X := Z) (j := 2) (v := .int .i64 t.fm) (P := fun k => k = w.heap.size + 2) rfl).own o1 (fun g hg e => by have := own_lo o1 g hg; omega)
        exact ⟨q1.bx.cell 2, q1.bx.fz 2, ldT_run q2.bx Tryd.underlying63 rfl (by kernel_rfl), Zr, zr, HZ.out.1, HZ.out.2.1, HZ.out.2.2.own o2 (fun g hg e => by have := own_lo o2 g hg; omega)⟩
      go_wp2_with (go_at_call 94; refine T2.out.mono ?_; rintro e w5 ⟨Z5, rfl, z5, H5⟩; have c0 : Z5.cell? ⟨w5.heap.size, 0, none⟩ = some (.int .i64 t.fm) := H5.out.2.cell 0; obtain ⟨m2, f2, l5, Zr, zr, HZ⟩ := FN.out _ H5.out.1)
      refine ret_cell_tmp (p := 4) (q := 5) rfl rfl (load_blk HZ.out.1 Tryd.underlying63 rfl (by kernel_rfl)) rfl ?_
      exact ⟨⟨p.nm, acc, t.fm⟩, sl, b, rfl, HZ.out.2.1, by rw [HE.out], fun _ => own_base HZ.out.2.2 (by omega)⟩
theorem sproc_any (w : World) (l : List Tz) (s : Sl) (p : Px) (h : RdV w 7 s l.length (flat tzE l)) (hp : RdV w 4 p.vl p.vs.length (flat wvE p.vs)) (hc : p.vl.n ≤ p.vl.c) : Calls Tryd.prog 77 #[.slice s.a s.n s.c, .agg (pxE p)] w (PostSp w l p) := by
  by_cases hno : p.np < 0 ∨ (p.vs.length : Int) < p.np ∨ 8 < p.np
  · exact sproc_no w l s p hno hp.len
  · obtain ⟨n, hn⟩ : ∃ n : Nat, p.np = (n : Int) := ⟨p.np.toNat, by omega⟩
    exact sproc_yes w l s p h hp hc n hn (by omega) (by omega)
end Go.Proofs.YtcppgpcgbggdcaaDoor

namespace Go.Proofs.YtcppgpcgbggdcaaDoor
set_option linter.unusedVariables false
set_option linter.unusedSimpArgs false
open Go.ChangeShapes Go.WideShapes Go.ChangeAt Go.RowKit

/-- A module: where its rows lie. -/
structure Mm where
  nm : ByteArray
  sy : Bool
  im : Sl
  sm : Sl
  ty : Sl
  st : Sl
  cs : Sl
  vs : Sl
  ps : Sl
  it : Sl
def mmE (m : Mm) : Array Value := #[.string m.nm, .bool m.sy, .slice m.im.a m.im.n m.im.c, .slice m.sm.a m.sm.n m.sm.c, .slice m.ty.a m.ty.n m.ty.c, .slice m.st.a m.st.n m.st.c, .slice m.cs.a m.cs.n m.cs.c, .slice m.vs.a m.vs.n m.vs.c, .slice m.ps.a m.ps.n m.ps.c, .slice m.it.a m.it.n m.it.c]
theorem mm_one (m : Mm) : ((mmE m).all fun x => x.oneCell') = true := by simp [mmE, Value.oneCell']
theorem sc_one (c : Sc) : ((Sc.cells c).all fun x => x.oneCell') = true := Sc.one c
theorem cn_one (x : Cn) : ((cEnc x).all fun x => x.oneCell') = true := by simp [cEnc, Value.oneCell']
/-- What its rows hold. -/
structure MmR (X : World) (m : Mm) (T : List Tz) (C : List Cn) (V : List Wv) (P : List Px) : Prop where
  ty : RdV X 7 m.ty T.length (flat tzE T)
  cs : RdV X 5 m.cs C.length (flat cEnc C)
  vs : RdV X 4 m.vs V.length (flat wvE V)
  ps : RdV X 7 m.ps P.length (flat pxE P)
  pv : ∀ p ∈ P, RdV X 4 p.vl p.vs.length (flat wvE p.vs) ∧ p.vl.n ≤ p.vl.c
  cl : C.length ≤ 2600000000000
  vl : V.length ≤ 4500000000000
  pl : P.length ≤ 1300000000000
  sz : m.nm.size ≤ 140737488355328 ∧ (∀ x ∈ C, x.nm.size ≤ 140737488355328) ∧ (∀ x ∈ V, x.nm.size ≤ 140737488355328) ∧ (∀ x ∈ P, x.nm.size ≤ 140737488355328)
theorem MmR.below {X Y : World} {m : Mm} {T : List Tz} {C : List Cn} {V : List Wv} {P : List Px} (h : MmR X m T C V P) (hb : Below X.heap.size X Y) : MmR Y m T C V P := ⟨h.ty.below hb, h.cs.below hb, h.vs.below hb, h.ps.below hb, fun p hp => ⟨(h.pv p hp).1.below hb, (h.pv p hp).2⟩, h.cl, h.vl, h.pl, h.sz⟩
/-- What is shown of a module. -/
def shO (nm : ByteArray) (T : List Tz) (C : List Cn) (V : List Wv) (P : List Px) : Option Sy := (varO T V).bind fun vs => (prcO T P).map fun ps => ⟨nm, C.filter (·.ex), vs, ps⟩
/-- The rows of symbols that grow. -/
structure QR (X : World) (B : Nat) (s2 s3 s4 : Sl) (a2 : List Cn) (a3 : List Vr) (a4 : List (Pc × Sl)) : Prop where
  r2 : X.ownsRow B 53 5 (.slice s2.a s2.n s2.c) a2.length (flat cEnc a2)
  r3 : X.ownsRow B 69 5 (.slice s3.a s3.n s3.c) a3.length (flat vEnc a3)
  r4 : X.ownsRow B 63 3 (.slice s4.a s4.n s4.c) a4.length (flat pEnc a4)
  r5 : PsAt X B a4
section
variable {X Y : World} {B : Nat} {s2 s3 s4 s' : Sl} {a2 : List Cn} {a3 : List Vr} {a4 : List (Pc × Sl)}
theorem QR.nil (X : World) (B : Nat) : QR X B ⟨none, 0, 0⟩ ⟨none, 0, 0⟩ ⟨none, 0, 0⟩ [] [] [] := ⟨own_nilH _ _ _ _, own_nilH _ _ _ _, own_nilH _ _ _ _, fun p hp => by cases hp⟩
theorem QR.below (h : QR X B s2 s3 s4 a2 a3 a4) (hb : Below X.heap.size X Y) : QR Y B s2 s3 s4 a2 a3 a4 := ⟨own_belowH h.r2 hb, own_belowH h.r3 hb, own_belowH h.r4 hb, fun p hp => own_belowH (h.r5 p hp) hb⟩
theorem tq_row {ob : Nat} {E E2 : TypeId} {k k2 n n2 : Nat} {v2 : Value} {xs xs2 : List Value} {s : Sl} (hob : ob < B) (ho : X.ownsRow B E k (.slice s.a s.n s.c) n xs) (h2 : X.ownsRow B E2 k2 v2 n2 xs2) (hne : E2 ≠ E) (t : Tq X Y (fun y => y = ob ∨ (Value.slice s.a s.n s.c).ownBlock = some y)) : Y.ownsRow B E2 k2 v2 n2 xs2 :=
  t.own h2 fun g hg e => by
    rcases e with e | e
    · have := own_lo h2 g hg; omega
    · exact own_two h2 ho hne hg e
theorem QR.app2 {ob : Nat} {x : Cn} (h : QR X B s2 s3 s4 a2 a3 a4) (hob : ob < B) (hn : Y.ownsRow B 53 5 (.slice s'.a s'.n s'.c) (a2.length + 1) (flat cEnc a2 ++ (cEnc x).toList)) (t : Tq X Y (fun y => y = ob ∨ (Value.slice s2.a s2.n s2.c).ownBlock = some y)) : QR Y B s' s3 s4 (a2 ++ [x]) a3 a4 :=
  ⟨by rw [List.length_append, flat_snoc]; exact hn, tq_row hob h.r2 h.r3 (by decide) t, tq_row hob h.r2 h.r4 (by decide) t, fun p hp => tq_row hob h.r2 (h.r5 p hp) (by decide) t⟩
theorem QR.app3 {ob : Nat} {x : Vr} (h : QR X B s2 s3 s4 a2 a3 []) (hob : ob < B) (hn : Y.ownsRow B 69 5 (.slice s'.a s'.n s'.c) (a3.length + 1) (flat vEnc a3 ++ (vEnc x).toList)) (t : Tq X Y (fun y => y = ob ∨ (Value.slice s3.a s3.n s3.c).ownBlock = some y)) : QR Y B s2 s' s4 a2 (a3 ++ [x]) [] :=
  ⟨tq_row hob h.r3 h.r2 (by decide) t, by rw [List.length_append, flat_snoc]; exact hn, tq_row hob h.r3 h.r4 (by decide) t, fun p hp => by cases hp⟩
theorem QR.app4 {ob : Nat} {x : Pc × Sl} (h : QR X B s2 s3 s4 a2 a3 a4) (hob : ob < B) (hx : X.ownsRow B 69 5 (.slice x.2.a x.2.n x.2.c) x.1.ps.length (flat vEnc x.1.ps)) (hn : Y.ownsRow B 63 3 (.slice s'.a s'.n s'.c) (a4.length + 1) (flat pEnc a4 ++ (pEnc x).toList)) (t : Tq X Y (fun y => y = ob ∨ (Value.slice s4.a s4.n s4.c).ownBlock = some y)) : QR Y B s2 s3 s' a2 a3 (a4 ++ [x]) :=
  ⟨tq_row hob h.r4 h.r2 (by decide) t, tq_row hob h.r4 h.r3 (by decide) t, by rw [List.length_append, flat_snoc]; exact hn, PsAt.snoc (fun p hp => tq_row hob h.r4 (h.r5 p hp) (by decide) t) (tq_row hob h.r4 hx (by decide) t)⟩
theorem QR.tq {P : Nat → Prop} (h : QR X B s2 s3 s4 a2 a3 a4) (t : Tq X Y P) (hp : ∀ k, P k → k < B) : QR Y B s2 s3 s4 a2 a3 a4 := by
  have q : ∀ {E : TypeId} {k : Nat} {v : Value} {n : Nat} {xs : List Value}, X.ownsRow B E k v n xs → Y.ownsRow B E k v n xs := fun ho => t.own ho fun g hg e => by have := own_lo ho g hg; have := hp g e; omega
  exact ⟨q h.r2, q h.r3, q h.r4, fun p hp => q (h.r5 p hp)⟩
theorem QR.at {nm : ByteArray} (h : QR X B s2 s3 s4 a2 a3 a4) : SyAt X B ⟨nm, s2, s3, s4⟩ ⟨nm, a2, a3, a4.map (·.1)⟩ := ⟨rfl, h.r2, h.r3, a4, rfl, h.r4, h.r5⟩
end
/-- While a module is looked at: itself, the answer's place, what is shown of it. -/
structure HS (w X : World) (m : Mm) (c : Sc) : Prop where
  mb : BA X w.heap.size 51 (mmE m)
  rz : BA X (w.heap.size + 1) 26 Sc.zero.cells
  bx : BA X (w.heap.size + 2) 26 c.cells
  be : Below w.heap.size w X
section
variable {w X Y : World} {m : Mm} {c c' : Sc}
theorem HS.lt (h : HS w X m c) : w.heap.size + 3 ≤ X.heap.size := h.bx.lt
theorem HS.below (h : HS w X m c) (hb : Below X.heap.size X Y) : HS w Y m c := ⟨h.mb.below hb, h.rz.below hb, h.bx.below hb, h.be.trans (hb.mono h.be.size)⟩
theorem HS.tq {P : Nat → Prop} (h : HS w X m c) (hb : BA Y (w.heap.size + 2) 26 c'.cells) (t : Tq X Y P) (hP : ∀ k, P k → k = w.heap.size + 2 ∨ w.heap.size + 3 ≤ k) : HS w Y m c' :=
  ⟨h.mb.tq t (fun e => by have := hP _ e; omega), h.rz.tq t (fun e => by have := hP _ e; omega), hb, below_tqH h.be t fun k hk e => by have := hP _ e; omega⟩
theorem HS.start (w : World) (m : Mm) : ∃ Z, (stT 26 ⟨w.heap.size + 2, 0, none⟩ (.agg #[.string m.nm, .slice none 0 0, .slice none 0 0, .slice none 0 0])).run Tryd.prog (((w.alloc (.cells #[.string m.nm, .bool m.sy, .slice m.im.a m.im.n m.im.c, .slice m.sm.a m.sm.n m.sm.c, .slice m.ty.a m.ty.n m.ty.c, .slice m.st.a m.st.n m.st.c, .slice m.cs.a m.cs.n m.cs.c, .slice m.vs.a m.vs.n m.vs.c, .slice m.ps.a m.ps.n m.ps.c, .slice m.it.a m.it.n m.it.c] 51)).alloc (.cells #[.string ⟨#[]⟩, .slice none 0 0, .slice none 0 0, .slice none 0 0] 26)).alloc (.cells #[.string ⟨#[]⟩, .slice none 0 0, .slice none 0 0, .slice none 0 0] 26)) = .ok () Z ∧ Hid (HS w Z m ⟨m.nm, ⟨none, 0, 0⟩, ⟨none, 0, 0⟩, ⟨none, 0, 0⟩⟩) := by
  have e1 : (w.alloc (.cells (mmE m) 51)).heap.size = w.heap.size + 1 := by simp
  have e2 : ((w.alloc (.cells (mmE m) 51)).alloc (.cells #[.string ⟨#[]⟩, .slice none 0 0, .slice none 0 0, .slice none 0 0] 26)).heap.size = w.heap.size + 2 := by simp
  have b1 := BA.new w 51 (mmE m)
  have b2 := BA.new (w.alloc (.cells (mmE m) 51)) 26 #[.string ⟨#[]⟩, .slice none 0 0, .slice none 0 0, .slice none 0 0]
  rw [e1] at b2
  have b3 := BA.new ((w.alloc (.cells (mmE m) 51)).alloc (.cells #[.string ⟨#[]⟩, .slice none 0 0, .slice none 0 0, .slice none 0 0] 26)) 26 #[.string ⟨#[]⟩, .slice none 0 0, .slice none 0 0, .slice none 0 0]
  rw [e2] at b3
  have c1 := (b1.below ((Below.refl _ _).alloc (Nat.le_refl _) (.cells #[.string ⟨#[]⟩, .slice none 0 0, .slice none 0 0, .slice none 0 0] 26))).below ((Below.refl _ _).alloc (Nat.le_refl _) (.cells #[.string ⟨#[]⟩, .slice none 0 0, .slice none 0 0, .slice none 0 0] 26))
  have c2 := b2.below ((Below.refl _ _).alloc (Nat.le_refl _) (.cells #[.string ⟨#[]⟩, .slice none 0 0, .slice none 0 0, .slice none 0 0] 26))
  obtain ⟨Z, z1, z2, z3⟩ := stT_run (Sc.cells ⟨m.nm, ⟨none, 0, 0⟩, ⟨none, 0, 0⟩, ⟨none, 0, 0⟩⟩) b3 rfl (by kernel_rfl) (sc_one _)
  exact ⟨Z, z1, c1.tq z3 (by omega), c2.tq z3 (by omega), z2, (by go_grown : Below w.heap.size w (((w.alloc (.cells (mmE m) 51)).alloc (.cells #[.string ⟨#[]⟩, .slice none 0 0, .slice none 0 0, .slice none 0 0] 26)).alloc (.cells #[.string ⟨#[]⟩, .slice none 0 0, .slice none 0 0, .slice none 0 0] 26))).trans (z3.bel (by simp; omega) (by omega))⟩
end
def PostSh (w : World) (m : Mm) (T : List Tz) (C : List Cn) (V : List Wv) (P : List Px) (e : Ending) (w' : World) : Prop := ∃ (c : Sc) (o : Sy) (ok : Bool), e = .returned (.tuple #[.agg #[.string c.nm, .slice c.cs.a c.cs.n c.cs.c, .slice c.vs.a c.vs.n c.vs.c, .slice c.ps.a c.ps.n c.ps.c], .bool ok]) ∧ Below w.heap.size w w' ∧ (shO m.nm T C V P = if ok then some o else none) ∧ (ok = true → SyAt w' w.heap.size c o)
theorem sh_none {w w' : World} {m : Mm} {T : List Tz} {C : List Cn} {V : List Wv} {P : List Px} (h : shO m.nm T C V P = none) (hb : Below w.heap.size w w') : PostSh w m T C V P (.returned (.tuple #[.agg #[.string ⟨#[]⟩, .slice none 0 0, .slice none 0 0, .slice none 0 0], .bool false])) w' := ⟨Sc.zero, ⟨⟨#[]⟩, [], [], []⟩, false, rfl, hb, h, fun e => by cases e⟩
theorem SyAt.low {X : World} {B B' : Nat} {c : Sc} {o : Sy} (h : SyAt X B c o) (hb : B' ≤ B) : SyAt X B' c o := by
  obtain ⟨l, h1, h2, h3⟩ := h.ps
  exact ⟨h.nm, own_base h.cs hb, own_base h.vs hb, l, h1, own_base h2 hb, fun p hp => own_base (h3 p hp) hb⟩
theorem info_con4 : (Tryd.prog.info? 53).map (fun i => (i.zero, i.size, i.bytes)) = some (some (.agg #[.string ⟨#[]⟩, .int .i64 0, .int .i64 0, .string ⟨#[]⟩, .bool false]), 5, 56) := by kernel_rfl
theorem info_prc4 : (Tryd.prog.info? 63).map (fun i => (i.zero, i.size, i.bytes)) = some (some (.agg #[.string ⟨#[]⟩, .slice none 0 0, .int .i64 0]), 3, 48) := by kernel_rfl
end Go.Proofs.YtcppgpcgbggdcaaDoor

namespace Go.Proofs.YtcppgpcgbggdcaaDoor
set_option linter.unusedVariables false
set_option linter.unusedSimpArgs false
open Go.ChangeShapes Go.WideShapes Go.ChangeAt Go.RowKit
attribute [local go_sem ↓] ldV_seal stV_seal ldY_seal stY_seal ldP_seal stP_seal ldW_seal stW_seal ldX_seal stX_seal ldM_seal stM_seal ldC_seal stC_seal ldS_seal stS_seal appN_seal

set_option maxHeartbeats 40000000 in
set_option maxRecDepth 20000 in
theorem shown_of (w : World) (m : Mm) (T : List Tz) (C : List Cn) (V : List Wv) (P : List Px) (h : MmR w m T C V P) : Calls Tryd.prog 48 #[.agg #[.string m.nm, .bool m.sy, .slice m.im.a m.im.n m.im.c, .slice m.sm.a m.sm.n m.sm.c, .slice m.ty.a m.ty.n m.ty.c, .slice m.st.a m.st.n m.st.c, .slice m.cs.a m.cs.n m.cs.c, .slice m.vs.a m.vs.n m.vs.c, .slice m.ps.a m.ps.n m.ps.c, .slice m.it.a m.it.n m.it.c]] w (PostSh w m T C V P) := by
  have hcl := h.cl
  have hvl := h.vl
  have hpl := h.pl
  have HT := hid_of h.ty
  have RC := hid_of h.cs
  have RV := hid_of h.vs
  have RP := hid_of h.ps
  have PV := hid_of h.pv
  obtain ⟨NC, hNC⟩ : ∃ n, n = C.length := ⟨_, rfl⟩
  obtain ⟨NV, hNV⟩ : ∃ n, n = V.length := ⟨_, rfl⟩
  obtain ⟨NP, hNP⟩ : ∃ n, n = P.length := ⟨_, rfl⟩
  have l1 : m.cs.n = NC := by rw [hNC]; exact h.cs.len
  have l2 : m.vs.n = NV := by rw [hNV]; exact h.vs.len
  have l3 : m.ps.n = NP := by rw [hNP]; exact h.ps.len
  have LC := hid_of hNC
  have LV := hid_of hNV
  have LP := hid_of hNP
  rw [← hNC] at hcl
  rw [← hNV] at hvl
  rw [← hNP] at hpl
  obtain ⟨Z0, z0, H0⟩ := HS.start w m
  have k6 : Z0.cell? ⟨w.heap.size, 6, none⟩ = some (.slice m.cs.a m.cs.n m.cs.c) := H0.out.mb.cell 6
  have K7 : Hid (∀ X c, HS w X m c → X.cell? ⟨w.heap.size, 7, none⟩ = some (.slice m.vs.a m.vs.n m.vs.c)) := hid_of fun X c hX => hX.mb.cell 7
  have K8 : Hid (∀ X c, HS w X m c → X.cell? ⟨w.heap.size, 8, none⟩ = some (.slice m.ps.a m.ps.n m.ps.c)) := hid_of fun X c hX => hX.mb.cell 8
  have K4 : Hid (∀ X c, HS w X m c → X.cell? ⟨w.heap.size, 4, none⟩ = some (.slice m.ty.a m.ty.n m.ty.c)) := hid_of fun X c hX => hX.mb.cell 4
  rw [l1] at k6
  rw [l2] at K7
  rw [l3] at K8
  rw [l1, l2, l3] at z0 ⊢
  obtain ⟨ca, hca⟩ : ∃ x, x = m.cs.a := ⟨_, rfl⟩
  obtain ⟨va, hva⟩ : ∃ x, x = m.vs.a := ⟨_, rfl⟩
  obtain ⟨pa, hpa⟩ : ∃ x, x = m.ps.a := ⟨_, rfl⟩
  have QC : Hid (RdV w 5 ⟨ca, m.cs.n, m.cs.c⟩ C.length (flat cEnc C)) := hid_of (by rw [hca]; exact RC.out)
  have QV : Hid (RdV w 4 ⟨va, m.vs.n, m.vs.c⟩ V.length (flat wvE V)) := hid_of (by rw [hva]; exact RV.out)
  have QP : Hid (RdV w 7 ⟨pa, m.ps.n, m.ps.c⟩ P.length (flat pxE P)) := hid_of (by rw [hpa]; exact RP.out)
  rw [← hca, ← hva, ← hpa] at z0 ⊢
  rw [← hca] at k6
  rw [← hva] at K7
  rw [← hpa] at K8
  have H1 := hid_of (And.intro H0.out (QR.nil Z0 (w.heap.size + 3)))
  clear hca hva hpa RC RV RP l1 l2 l3 hNC hNV hNP h H0
  go_enter Tryd.func48, Tryd.ntmps48
  go_upto_block 0 with fail
  go_cut [21] (fun s_ X => ∃ (acc : List Cn) (sl : Sl), Hid ((HS w X m ⟨m.nm, sl, ⟨none, 0, 0⟩, ⟨none, 0, 0⟩⟩ ∧ QR X (w.heap.size + 3) sl ⟨none, 0, 0⟩ ⟨none, 0, 0⟩ acc [] []) ∧ C.filter (·.ex) = acc))
  case first =>
    go_wp2_with fail
    go_loopg [21] NC (fun gf s_ wx => ∃ (i : Nat) (acc : List Cn) (sl : Sl), s_ = .int .i64 (i : Int) ∧ i + gf = NC ∧ acc.length ≤ i ∧ Hid ((HS w wx m ⟨m.nm, sl, ⟨none, 0, 0⟩, ⟨none, 0, 0⟩⟩ ∧ QR wx (w.heap.size + 3) sl ⟨none, 0, 0⟩ ⟨none, 0, 0⟩ acc [] []) ∧ C.filter (·.ex) = acc ++ (C.drop i).filter (·.ex)))
    case atStart => exact ⟨0, [], ⟨none, 0, 0⟩, rfl, by omega, Nat.le_refl _, H1.out, by simp⟩
    case round =>
      clear H1 z0 k6
      obtain ⟨i, acc, sl, rfl, hi, hal, HL⟩ := hrel
      by_cases hlt : i < NC
      rotate_left
      · have e1 : decide ((i : Int) < (NC : Int)) = false := decide_eq_false (by omega)
        have FF := hid_of (And.intro HL.out.1 (show C.filter (·.ex) = acc by rw [HL.out.2, List.drop_of_length_le (by have := LC.out; omega)]; simp))
        clear HL
        go_wp2
        go_meet
        exact ⟨acc, sl, FF.out⟩
      have e1 : decide ((i : Int) < (NC : Int)) = true := decide_eq_true (by omega)
      obtain ⟨g', rfl⟩ : ∃ g', gk = g' + 1 := ⟨gk - 1, by omega⟩
      have j0 : (0 : Int) ≤ (i : Int) := by omega
      have j1 : (i : Int) < (NC : Int) := by omega
      have hiL : i < C.length := by have := LC.out; omega
      obtain ⟨x, hx⟩ : ∃ x, x = C[i] := ⟨_, rfl⟩
      have hdr : C.drop i = x :: C.drop (i + 1) := by rw [hx]; exact List.drop_eq_getElem_cons hiL
      obtain ⟨g, off, hga, hg, hcl2⟩ := (QC.out.below HL.out.1.1.be).elem (fun _ => rfl) i hiL
      rw [← hx] at hcl2
      dsimp only at hga
      subst hga
      have hl0 := ldT_mid (ty := 53) hcl2 Tryd.underlying53 rfl (by kernel_rfl)
      obtain ⟨Z1, z1, z2, z3⟩ := stT_run (w := wr.alloc (.cells #[.string ⟨#[]⟩, .int .i64 0, .int .i64 0, .string ⟨#[]⟩, .bool false] 53)) (cEnc x) (BA.new wr _ _) rfl (by kernel_rfl) (cn_one _)
      have b1 : Below wr.heap.size wr Z1 := ((Below.refl _ _).alloc (Nat.le_refl _) _).trans (z3.bel (by simp) (Nat.le_refl _))
      have c4 : Z1.cell? ⟨wr.heap.size, 4, none⟩ = some (.bool x.ex) := z2.cell 4
      have V1 := hid_of (And.intro (HL.out.1.1.below b1) (And.intro (HL.out.1.2.below b1) z2))
      have PO := hid_of HL.out.2
      have lx := ldT_run z2 Tryd.underlying53 rfl (by kernel_rfl)
      simp only [cEnc] at hl0 z1 lx
      clear HL hcl2 z2 z3 b1 hg hx
      cases hex : x.ex
      · rw [hex] at c4 hl0 z1 lx
        have NX : Hid (C.filter (·.ex) = acc ++ (C.drop (i + 1)).filter (·.ex)) := hid_of (by rw [PO.out, hdr]; simp [hex])
        clear hdr PO
        go_wp2_with fail
        go_roundg g'
        case measure => omega
        case rel => exact ⟨i + 1, acc, sl, by simp, by omega, by omega, ⟨V1.out.1, V1.out.2.1⟩, NX.out⟩
      · rw [hex] at c4
        have NX : Hid (C.filter (·.ex) = (acc ++ [x]) ++ (C.drop (i + 1)).filter (·.ex)) := hid_of (by rw [PO.out, hdr]; simp [hex])
        clear hdr PO
        obtain ⟨i0, hi0, hz0, hz1, hz2⟩ := info_parts info_con4
        obtain ⟨s', Y, hrun, cY, fY, cX, cA, HNX⟩ := app_box (ob := w.heap.size + 2) (j := 1) V1.out.1.bx (by omega) rfl Tryd.underlying22 hi0 hz0 hz1 hz2 rfl (by omega) (cEnc x) rfl (by intro u hu; simp [cEnc] at hu; rcases hu with rfl | rfl | rfl | rfl | rfl <;> rfl) V1.out.2.1.r2 V1.out.1.lt (by omega) (by omega)
        simp only [cEnc] at hrun cA
        clear hi0 hz0 hz1 hz2
        rw [hex] at lx hl0 z1 hrun cA
        go_wp2_with fail
        go_roundg g'
        case measure => omega
        case rel =>
          obtain ⟨n1, n2, n3⟩ := HNX.out
          exact ⟨i + 1, acc ++ [x], s', by simp, by omega, by rw [List.length_append]; simp; omega, ⟨V1.out.1.tq (c' := ⟨m.nm, s', ⟨none, 0, 0⟩, ⟨none, 0, 0⟩⟩) n1 n3 (fun k hk => by rcases hk with hk | hk; exact .inl hk; exact .inr (own_lo V1.out.2.1.r2 k hk)), V1.out.2.1.app2 (ob := w.heap.size + 2) (by omega) n2 n3⟩, NX.out⟩
  case rest =>
    obtain ⟨acc2, sl2, H2⟩ := hcut
    clear H1 z0 k6 QC LC hcl
    have k7 := K7.out _ _ H2.out.1.1
    have FO := hid_of H2.out.2
    have H3 := hid_of H2.out.1
    clear H2 K7
    have TH : Hid (∀ X i, Below w.heap.size w X → Calls Tryd.prog 76 #[.slice m.ty.a m.ty.n m.ty.c, .int .i64 i, .int .i64 8] X fun e Y => ∃ Z, e = .returned (.tuple #[.agg #[.string (thV T i 8).nm, .int .i64 (thV T i 8).fm, .int .i64 (thV T i 8).ln, .bool (thV T i 8).op, .bool (thV T i 8).rf], .bool (thB T i 8)]) ∧ (stT 69 ⟨Y.heap.size, 0, none⟩ (.agg #[.string (thV T i 8).nm, .int .i64 (thV T i 8).fm, .int .i64 (thV T i 8).ln, .bool (thV T i 8).op, .bool (thV T i 8).rf])).run Tryd.prog (Y.alloc (.cells #[.string ⟨#[]⟩, .int .i64 0, .int .i64 0, .bool false, .bool false] 69)) = .ok () Z ∧ Hid (Below X.heap.size X Z ∧ BA Z Y.heap.size 69 (vEnc (thV T i 8)) ∧ X.heap.size ≤ Y.heap.size)) := hid_of fun X i hX => (thing_any X T m.ty i 8 (HT.out.below hX) (.inl rfl)).mono fun e Y hh => by
      obtain ⟨Z, z1, z2, z3⟩ := stT_run (w := Y.alloc (.cells #[.string ⟨#[]⟩, .int .i64 0, .int .i64 0, .bool false, .bool false] 69)) (vEnc (thV T i 8)) (BA.new Y _ _) rfl (by kernel_rfl) (vr_one _)
      have bZ : Below Y.heap.size Y Z := ((Below.refl _ _).alloc (Nat.le_refl _) _).trans (z3.bel (by simp) (Nat.le_refl _))
      exact ⟨Z, hh.1, z1, hh.2.trans (bZ.mono hh.2.size), z2, hh.2.size⟩
    go_upto_block 2 with fail
    go_cut [37] (fun s_ X => ∃ (acc : List Vr) (sl : Sl), Hid ((HS w X m ⟨m.nm, sl2, sl, ⟨none, 0, 0⟩⟩ ∧ QR X (w.heap.size + 3) sl2 sl ⟨none, 0, 0⟩ acc2 acc []) ∧ varO T V = some acc))
    case first =>
      go_wp2_with fail
      go_loopg [37] NV (fun gf s_ wx => ∃ (i : Nat) (acc : List Vr) (sl : Sl), s_ = .int .i64 (i : Int) ∧ i + gf = NV ∧ acc.length ≤ i ∧ Hid ((HS w wx m ⟨m.nm, sl2, sl, ⟨none, 0, 0⟩⟩ ∧ QR wx (w.heap.size + 3) sl2 sl ⟨none, 0, 0⟩ acc2 acc []) ∧ varO T V = (varO T (V.drop i)).map (acc ++ ·)))
      case atStart => exact ⟨0, [], ⟨none, 0, 0⟩, rfl, by omega, Nat.le_refl _, H3.out, by cases hh : varO T V <;> simp [hh]⟩
      case round =>
        clear H3 k7
        obtain ⟨i, acc, sl, rfl, hi, hal, HL⟩ := hrel
        by_cases hlt : i < NV
        rotate_left
        · have e1 : decide ((i : Int) < (NV : Int)) = false := decide_eq_false (by omega)
          have FF := hid_of (And.intro HL.out.1 (show varO T V = some acc by rw [HL.out.2, List.drop_of_length_le (by have := LV.out; omega)]; simp [varO]))
          clear HL
          go_wp2
          go_meet
          exact ⟨acc, sl, FF.out⟩
        have e1 : decide ((i : Int) < (NV : Int)) = true := decide_eq_true (by omega)
        obtain ⟨g', rfl⟩ : ∃ g', gk = g' + 1 := ⟨gk - 1, by omega⟩
        have j0 : (0 : Int) ≤ (i : Int) := by omega
        have j1 : (i : Int) < (NV : Int) := by omega
        have hiL : i < V.length := by have := LV.out; omega
        obtain ⟨v, hv⟩ : ∃ v, v = V[i] := ⟨_, rfl⟩
        have hdr : V.drop i = v :: V.drop (i + 1) := by rw [hv]; exact List.drop_eq_getElem_cons hiL
        obtain ⟨g, off, hga, hg, hcl2⟩ := (QV.out.below HL.out.1.1.be).elem (fun _ => rfl) i hiL
        rw [← hv] at hcl2
        dsimp only at hga
        subst hga
        have hl0 := ldT_mid (ty := 55) hcl2 Tryd.underlying55 rfl (by kernel_rfl)
        obtain ⟨Z1, z1, z2, z3⟩ := stT_run (w := wr.alloc (.cells #[.string ⟨#[]⟩, .int .i64 0, .bool false, .bool false] 55)) (wvE v) (BA.new wr _ _) rfl (by kernel_rfl) (wv_one _)
        have b1 : Below wr.heap.size wr Z1 := ((Below.refl _ _).alloc (Nat.le_refl _) _).trans (z3.bel (by simp) (Nat.le_refl _))
        have c2 : Z1.cell? ⟨wr.heap.size, 2, none⟩ = some (.bool v.ex) := z2.cell 2
        have c1 : Z1.cell? ⟨wr.heap.size, 1, none⟩ = some (.int .i64 v.ty) := z2.cell 1
        have V1 := hid_of (And.intro (HL.out.1.1.below b1) (And.intro (HL.out.1.2.below b1) z2))
        have k4 := K4.out _ _ V1.out.1
        have PO := hid_of HL.out.2
        simp only [wvE] at hl0 z1
        clear HL hcl2 z2 z3 b1 hg hv
        cases hex : v.ex
        · rw [hex] at c2 hl0 z1
          have NX : Hid (varO T V = (varO T (V.drop (i + 1))).map (acc ++ ·)) := hid_of (by rw [PO.out, hdr]; simp [varO, hex])
          clear hdr PO
          go_wp2_with fail
          go_roundg g'
          case measure => omega
          case rel => exact ⟨i + 1, acc, sl, by simp, by omega, by omega, ⟨V1.out.1, V1.out.2.1⟩, NX.out⟩
        rw [hex] at c2 hl0 z1
        have TC := hid_of (TH.out Z1 v.ty V1.out.1.be)
        obtain ⟨tv, htv⟩ : ∃ tv, thV T v.ty 8 = tv := ⟨_, rfl⟩
        have THV := htv
        rw [htv] at TC
        clear htv
        cases hok : thB T v.ty 8
        · rw [hok] at TC
          have NO : Hid (shO m.nm T C V P = none) := hid_of (by
            unfold shO
            rw [PO.out, hdr]
            simp [varO, hok, hex])
          clear PO hok THV hdr
          go_wp2_with (go_at_call 76; refine TC.out.mono ?_; rintro e w2 ⟨Z2, rfl, x2, X2⟩; obtain ⟨Zr, zr, HZ⟩ := fill_at (w := w) #[.string ⟨#[]⟩, .slice none 0 0, .slice none 0 0, .slice none 0 0] (V1.out.1.rz.below X2.out.1) (V1.out.1.be.trans (X2.out.1.mono V1.out.1.be.size)) (by omega) rfl (by kernel_rfl) (sc_one Sc.zero))
          refine ret_cell_tmp (p := 2) (q := 3) rfl rfl (load_blk HZ.out.1 Tryd.underlying26 rfl (by kernel_rfl)) rfl ?_
          exact sh_none NO.out HZ.out.2.1
        · rw [hok] at TC
          have NX : Hid (varO T V = (varO T (V.drop (i + 1))).map ((acc ++ [{ tv with nm := v.nm }]) ++ ·)) := hid_of (by
            rw [PO.out, hdr]
            simp only [varO, hok, hex, if_true, THV]
            cases varO T (V.drop (i + 1)) <;> simp)
          clear PO hok hdr THV
          have AP : Hid (∀ X (y : Vr), HS w X m ⟨m.nm, sl2, sl, ⟨none, 0, 0⟩⟩ ∧ QR X (w.heap.size + 3) sl2 sl ⟨none, 0, 0⟩ acc2 acc [] → _) := hid_of fun X y hX => by
            obtain ⟨i0, hi0, hz0, hz1, hz2⟩ := info_parts info_par4
            exact app_box (ob := w.heap.size + 2) (j := 2) hX.1.bx (by omega) rfl Tryd.underlying23 hi0 hz0 hz1 hz2 rfl (by omega) (vEnc y) rfl (by intro u hu; simp [vEnc] at hu; rcases hu with rfl | rfl | rfl | rfl | rfl <;> rfl) hX.2.r3 hX.1.lt (by omega) (by omega)
          go_wp2_with (go_at_call 76; refine TC.out.mono ?_; rintro e w2 ⟨Z2, rfl, x2, X2⟩; have m0 : Z2.cell? ⟨wr.heap.size, 0, none⟩ = some (.string v.nm) := (V1.out.2.2.below X2.out.1).cell 0; have m4 : Z2.cell? ⟨w2.heap.size, 0, none⟩ = some (.string tv.nm) := X2.out.2.1.cell 0; have f4 := X2.out.2.1.fz 0; have B3 := X2.out.2.1.set (j := 0) (.string v.nm); have b3 : Below Z1.heap.size Z1 (Z2.setCell ⟨w2.heap.size, 0, none⟩ (.string v.nm)) := X2.out.1.trans ((Tq.set (X := Z2) (P := fun k => k = w2.heap.size) rfl).bel X2.out.1.size X2.out.2.2); have l3 := ldT_run B3 Tryd.underlying69 rfl (by kernel_rfl); obtain ⟨s', Y, hrun, cY, fY, cX, cA, HNX⟩ := AP.out _ { tv with nm := v.nm } ⟨V1.out.1.below b3, V1.out.2.1.below b3⟩; rw [show (Z2.setCell ⟨w2.heap.size, 0, none⟩ (.string v.nm)).heap.size = Z2.heap.size from (by simp)] at hrun; have b3 := hid_of b3; simp only [vEnc, List.setIfInBounds_toArray, List.set_cons_zero, List.set_cons_succ] at l3 hrun cA)
          go_roundg g'
          case measure => omega
          case rel =>
            obtain ⟨n1, n2, n3⟩ := HNX.out
            exact ⟨i + 1, acc ++ [{ tv with nm := v.nm }], s', by simp, by omega, by rw [List.length_append]; simp; omega, ⟨(V1.out.1.below b3.out).tq (c' := ⟨m.nm, sl2, s', ⟨none, 0, 0⟩⟩) n1 n3 (fun k hk => by rcases hk with hk | hk; exact .inl hk; exact .inr (own_lo V1.out.2.1.r3 k hk)), (V1.out.2.1.below b3.out).app3 (ob := w.heap.size + 2) (by omega) n2 n3⟩, NX.out⟩
    case rest =>
      obtain ⟨acc3, sl3, H4⟩ := hcut
      clear H3 k7 TH QV LV hvl
      have k8 := K8.out _ _ H4.out.1.1
      have VO := hid_of H4.out.2
      have H5 := hid_of H4.out.1
      clear H4 K8
      have TN : Hid (∀ X p, p ∈ P → Below w.heap.size w X → procO T p = none → Calls Tryd.prog 77 #[.slice m.ty.a m.ty.n m.ty.c, .agg (pxE p)] X fun e Y => ∃ (x : Pc) (ys : Sl) (Z : World), e = .returned (.tuple #[.agg #[.string x.nm, .slice ys.a ys.n ys.c, .int .i64 x.rs], .bool false]) ∧ (stT 63 ⟨Y.heap.size, 0, none⟩ (.agg #[.string x.nm, .slice ys.a ys.n ys.c, .int .i64 x.rs])).run Tryd.prog (Y.alloc (.cells #[.string ⟨#[]⟩, .slice none 0 0, .int .i64 0] 63)) = .ok () Z ∧ Hid (Below X.heap.size X Z)) := hid_of fun X p hp hX hno => (sproc_any X T m.ty p (HT.out.below hX) ((PV.out p hp).1.below hX) (PV.out p hp).2).mono fun e Y hh => by
        obtain ⟨x, ys, ok, h1, h2, h3, h4⟩ := hh
        rw [hno] at h3
        cases ok
        rotate_left
        · cases h3
        obtain ⟨Z, z1, z2, z3⟩ := stT_run (w := Y.alloc (.cells #[.string ⟨#[]⟩, .slice none 0 0, .int .i64 0] 63)) (pEnc (x, ys)) (BA.new Y _ _) rfl (by kernel_rfl) (pe_one _)
        have bZ : Below Y.heap.size Y Z := ((Below.refl _ _).alloc (Nat.le_refl _) _).trans (z3.bel (by simp) (Nat.le_refl _))
        exact ⟨x, ys, Z, h1, z1, h2.trans (bZ.mono h2.size)⟩
      have TY : Hid (∀ X p y, p ∈ P → Below w.heap.size w X → procO T p = some y → Calls Tryd.prog 77 #[.slice m.ty.a m.ty.n m.ty.c, .agg (pxE p)] X fun e Y => ∃ (ys : Sl) (Z : World), e = .returned (.tuple #[.agg #[.string y.nm, .slice ys.a ys.n ys.c, .int .i64 y.rs], .bool true]) ∧ (stT 63 ⟨Y.heap.size, 0, none⟩ (.agg #[.string y.nm, .slice ys.a ys.n ys.c, .int .i64 y.rs])).run Tryd.prog (Y.alloc (.cells #[.string ⟨#[]⟩, .slice none 0 0, .int .i64 0] 63)) = .ok () Z ∧ Hid (Below X.heap.size X Z ∧ BA Z Y.heap.size 63 (pEnc (y, ys)) ∧ Z.ownsRow X.heap.size 69 5 (.slice ys.a ys.n ys.c) y.ps.length (flat vEnc y.ps))) := hid_of fun X p y hp hX hyes => (sproc_any X T m.ty p (HT.out.below hX) ((PV.out p hp).1.below hX) (PV.out p hp).2).mono fun e Y hh => by
        obtain ⟨x, ys, ok, h1, h2, h3, h4⟩ := hh
        rw [hyes] at h3
        cases ok
        · cases h3
        injection h3 with h3
        subst h3
        obtain ⟨Z, z1, z2, z3⟩ := stT_run (w := Y.alloc (.cells #[.string ⟨#[]⟩, .slice none 0 0, .int .i64 0] 63)) (pEnc (y, ys)) (BA.new Y _ _) rfl (by kernel_rfl) (pe_one _)
        have bZ : Below Y.heap.size Y Z := ((Below.refl _ _).alloc (Nat.le_refl _) _).trans (z3.bel (by simp) (Nat.le_refl _))
        exact ⟨ys, Z, h1, z1, h2.trans (bZ.mono h2.size), z2, own_belowH (h4 rfl) bZ⟩
      go_upto_block 4 with fail
      go_wp2_with fail
      go_loopg [68] NP (fun gf s_ wx => ∃ (i : Nat) (acc : List (Pc × Sl)) (sl : Sl), s_ = .int .i64 (i : Int) ∧ i + gf = NP ∧ acc.length ≤ i ∧ Hid ((HS w wx m ⟨m.nm, sl2, sl3, sl⟩ ∧ QR wx (w.heap.size + 3) sl2 sl3 sl acc2 acc3 acc) ∧ prcO T P = (prcO T (P.drop i)).map (acc.map (·.1) ++ ·)))
      case atStart => exact ⟨0, [], ⟨none, 0, 0⟩, rfl, by omega, Nat.le_refl _, H5.out, by cases hh : prcO T P <;> simp [hh]⟩
      case round =>
        clear H5 k8
        obtain ⟨i, acc, sl, rfl, hi, hal, HL⟩ := hrel
        by_cases hlt : i < NP
        rotate_left
        · have e1 : decide ((i : Int) < (NP : Int)) = false := decide_eq_false (by omega)
          have hP2 : prcO T P = some (acc.map (·.1)) := by rw [HL.out.2, List.drop_of_length_le (by have := LP.out; omega)]; simp [prcO]
          have hO2 : shO m.nm T C V P = some ⟨m.nm, acc2, acc3, acc.map (·.1)⟩ := by unfold shO; rw [VO.out, hP2, FO.out]; rfl
          have FF := hid_of (And.intro HL.out.1 hO2)
          have ls := ldT_run HL.out.1.1.bx Tryd.underlying26 rfl (by kernel_rfl)
          obtain ⟨Zr, zr, HZ⟩ := fill_at (w := w) (Sc.cells ⟨m.nm, sl2, sl3, sl⟩) HL.out.1.1.rz HL.out.1.1.be (by omega) rfl (by kernel_rfl) (sc_one _)
          simp only [Sc.cells] at ls zr
          clear HL hP2 hO2
          go_wp2
          refine ret_cell_tmp (p := 2) (q := 3) rfl rfl (load_blk HZ.out.1 Tryd.underlying26 rfl (by kernel_rfl)) rfl ?_
          exact ⟨⟨m.nm, sl2, sl3, sl⟩, _, true, rfl, HZ.out.2.1, FF.out.2, fun _ => (((FF.out.1.2.tq HZ.out.2.2 (fun k hk => by omega)).at).low (by omega))⟩
        have e1 : decide ((i : Int) < (NP : Int)) = true := decide_eq_true (by omega)
        obtain ⟨g', rfl⟩ : ∃ g', gk = g' + 1 := ⟨gk - 1, by omega⟩
        have j0 : (0 : Int) ≤ (i : Int) := by omega
        have j1 : (i : Int) < (NP : Int) := by omega
        have hiL : i < P.length := by have := LP.out; omega
        obtain ⟨p, hp⟩ : ∃ p, p = P[i] := ⟨_, rfl⟩
        have hdr : P.drop i = p :: P.drop (i + 1) := by rw [hp]; exact List.drop_eq_getElem_cons hiL
        obtain ⟨g, off, hga, hg, hcl2⟩ := (QP.out.below HL.out.1.1.be).elem (fun _ => rfl) i hiL
        rw [← hp] at hcl2
        dsimp only at hga
        subst hga
        have hl0 := ldT_mid (ty := 58) hcl2 Tryd.underlying58 rfl (by kernel_rfl)
        obtain ⟨Z1, z1, z2, z3⟩ := stT_run (w := wr.alloc (.cells #[.string ⟨#[]⟩, .bool false, .int .i64 0, .slice none 0 0, .int .i64 0, .slice none 0 0, .slice none 0 0] 58)) (pxE p) (BA.new wr _ _) rfl (by kernel_rfl) (px_one _)
        have b1 : Below wr.heap.size wr Z1 := ((Below.refl _ _).alloc (Nat.le_refl _) _).trans (z3.bel (by simp) (Nat.le_refl _))
        have hmem : p ∈ P := by rw [hp]; exact List.getElem_mem hiL
        have c1 : Z1.cell? ⟨wr.heap.size, 1, none⟩ = some (.bool p.ex) := z2.cell 1
        have lx := ldT_run z2 Tryd.underlying58 rfl (by kernel_rfl)
        have V1 := hid_of (And.intro (HL.out.1.1.below b1) (HL.out.1.2.below b1))
        have k4 := K4.out _ _ V1.out.1
        have PO := hid_of HL.out.2
        have MEM := hid_of hmem
        clear HL hcl2 z2 z3 b1 hg hp hmem
        cases hex : p.ex
        · rw [hex] at c1
          have NX : Hid (prcO T P = (prcO T (P.drop (i + 1))).map (acc.map (·.1) ++ ·)) := hid_of (by rw [PO.out, hdr]; simp [prcO, hex])
          clear hdr PO
          generalize pxE p = pe at hl0 z1 lx
          go_wp2_with fail
          go_roundg g'
          case measure => omega
          case rel => exact ⟨i + 1, acc, sl, by simp, by omega, by omega, ⟨V1.out.1, V1.out.2⟩, NX.out⟩
        rw [hex] at c1
        cases hok : procO T p with
        | none =>
          have TC := hid_of (TN.out Z1 p MEM.out V1.out.1.be hok)
          have NO : Hid (shO m.nm T C V P = none) := hid_of (by
            unfold shO
            rw [PO.out, hdr, VO.out]
            simp [prcO, hok, hex])
          clear PO hok hdr
          generalize pxE p = pe at hl0 z1 lx TC
          go_wp2_with (go_at_call 77; refine TC.out.mono ?_; rintro e w2 ⟨x, ys, Z2, rfl, x2, X2⟩; obtain ⟨Zr, zr, HZ⟩ := fill_at (w := w) #[.string ⟨#[]⟩, .slice none 0 0, .slice none 0 0, .slice none 0 0] (V1.out.1.rz.below X2.out) (V1.out.1.be.trans (X2.out.mono V1.out.1.be.size)) (by omega) rfl (by kernel_rfl) (sc_one Sc.zero))
          refine ret_cell_tmp (p := 2) (q := 3) rfl rfl (load_blk HZ.out.1 Tryd.underlying26 rfl (by kernel_rfl)) rfl ?_
          exact sh_none NO.out HZ.out.2.1
        | some y =>
          have TC := hid_of (TY.out Z1 p y MEM.out V1.out.1.be hok)
          have NX : Hid (∀ ys : Sl, prcO T P = (prcO T (P.drop (i + 1))).map ((acc ++ [(y, ys)]).map (·.1) ++ ·)) := hid_of fun ys => by
            rw [PO.out, hdr]
            simp only [prcO, hok, hex, if_true]
            cases prcO T (P.drop (i + 1)) <;> simp
          clear PO hok hdr
          have AP : Hid (∀ X (ys : Sl), HS w X m ⟨m.nm, sl2, sl3, sl⟩ ∧ QR X (w.heap.size + 3) sl2 sl3 sl acc2 acc3 acc → _) := hid_of fun X ys hX => by
            obtain ⟨i0, hi0, hz0, hz1, hz2⟩ := info_parts info_prc4
            exact app_box (ob := w.heap.size + 2) (j := 3) hX.1.bx (by omega) rfl Tryd.underlying24 hi0 hz0 hz1 hz2 rfl (by omega) (pEnc (y, ys)) rfl (by intro u hu; simp [pEnc] at hu; rcases hu with rfl | rfl | rfl <;> rfl) hX.2.r4 hX.1.lt (by omega) (by omega)
          generalize pxE p = pe at hl0 z1 lx TC
          go_wp2_with (go_at_call 77; refine TC.out.mono ?_; rintro e w2 ⟨ys, Z2, rfl, x2, X2⟩; have l3 := ldT_run X2.out.2.1 Tryd.underlying63 rfl (by kernel_rfl); obtain ⟨s', Y, hrun, cY, fY, cX, cA, HNX⟩ := AP.out _ ys ⟨V1.out.1.below X2.out.1, V1.out.2.below X2.out.1⟩; simp only [pEnc] at l3 hrun cA)
          go_roundg g'
          case measure => omega
          case rel =>
            obtain ⟨n1, n2, n3⟩ := HNX.out
            exact ⟨i + 1, acc ++ [(y, ys)], s', by simp, by omega, by rw [List.length_append]; simp; omega, ⟨(V1.out.1.below X2.out.1).tq (c' := ⟨m.nm, sl2, sl3, s'⟩) n1 n3 (fun k hk => by rcases hk with hk | hk; exact .inl hk; exact .inr (own_lo V1.out.2.r4 k hk)), (V1.out.2.below X2.out.1).app4 (ob := w.heap.size + 2) (x := (y, ys)) (by omega) (own_base X2.out.2.2 V1.out.1.lt) n2 n3⟩, NX.out ys⟩
end Go.Proofs.YtcppgpcgbggdcaaDoor
