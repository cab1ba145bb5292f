/-
  Layer 13, the document's Right.
-/
import Derived.Test.YtcppgpcgbggdcaaDoorYdi
import Derived.Deep.RegionWith
namespace Go.Proofs.YtcppgpcgbggdcaaDoor
set_option linter.unusedVariables false
set_option linter.unusedSimpArgs false
open Go.ChangeShapes Go.WideShapes Go.ChangeAt Go.RowKit
attribute [local go_sem ↓] ldC_seal stC_seal ldV_seal stV_seal ldP_seal stP_seal ldS_seal stS_seal appN_seal

theorem all_take {α : Type} (P : α → Bool) (xs : List α) (i : Nat) (h : i < xs.length) : (xs.take (i + 1)).all P = ((xs.take i).all P && P xs[i]) := by
  rw [List.take_add_one, List.getElem?_eq_getElem h, Option.toList_some, List.all_append]
  simp
theorem map_take {α β : Type} (g : α → β) (xs : List α) (i : Nat) (h : i < xs.length) : (xs.take (i + 1)).map g = (xs.take i).map g ++ [g xs[i]] := by
  rw [List.take_add_one, List.getElem?_eq_getElem h, Option.toList_some, List.map_append]
  rfl
/-- What stands while the document looks: the symbols in a box, the names that were met. -/
structure SD (w X : World) (c : Sc) (v : Value) (l : List ByteArray) : Prop where
  bx : BA X w.heap.size 26 c.cells
  be : Below w.heap.size w X
  ow : X.ownsRow (w.heap.size + 1) 9 1 v l.length (l.map Value.string)
theorem SD.below {w X Y : World} {c : Sc} {v : Value} {l : List ByteArray} (h : SD w X c v l) (hb : Below X.heap.size X Y) : SD w Y c v l :=
  ⟨h.bx.below hb, h.be.trans (hb.mono (Nat.le_of_lt h.bx.lt)), h.ow.1, h.ow.2.imp id fun ⟨g, cap, cur, e1, e2, e3, r⟩ => ⟨g, cap, cur, e1, e2, (hb.block g (Array.getElem?_eq_some_iff.1 e3).1).trans e3, r⟩⟩
theorem SD.start (w : World) (c : Sc) : SD w (w.alloc (.cells c.cells 26)) c (.slice none 0 0) [] := ⟨BA.new w _ _, (Below.refl _ _).alloc (Nat.le_refl _) _, rfl, .inl ⟨rfl, rfl⟩⟩
/-- A name more. -/
theorem SD.app {w X : World} {c : Sc} {v : Value} {l : List ByteArray} (h : SD w X c v l) (hl : l.length ≤ 1000) (x : ByteArray) : ∃ (s : Sl) (Y : World), (appN #[46, 46] 46 #[v, .slice (some ⟨X.heap.size, 0, none⟩) 1 1]).run Tryd.prog (X.alloc (.cells #[.string x] 9)) = .ok (.slice s.a s.n s.c) Y ∧ Hid (SD w Y c (.slice s.a s.n s.c) (l ++ [x]) ∧ ∀ k, k < X.heap.size → v.ownBlock ≠ some k → Y.heap[k]? = X.heap[k]?) := by
  have hlt := h.bx.lt
  obtain ⟨s, Y, h1, h2, h3⟩ := app_str (B := w.heap.size + 1) x h.ow hlt (by omega)
  have hb : ∀ k, k < X.heap.size → v.ownBlock ≠ some k → Y.heap[k]? = X.heap[k]? := fun k hk hne => (h3.block k (by simp; omega) (fun e => hne e.symm)).trans (Below.heap_alloc _ _ _ hk)
  have hlo : ∀ k, k < w.heap.size + 1 → v.ownBlock ≠ some k := fun k hk e => by have := own_lo h.ow k e; omega
  have hs := h3.size
  simp at hs
  refine ⟨s, Y, h1, hid_of ⟨⟨(hb _ hlt (hlo _ (by omega))).trans h.bx, ⟨h3.os.trans h.be.os, h3.tape.trans h.be.tape, h3.output.trans h.be.output, by have := h.be.size; omega, fun k hk => (hb k (Nat.lt_of_lt_of_le hk h.be.size) (hlo k (by omega))).trans (h.be.block k hk)⟩, ?_⟩, hb⟩⟩
  rw [List.length_append, List.map_append]
  exact h2
theorem con_at {w X : World} {s : Sl} {xs : List Cn} (h : RdV w 5 s xs.length (flat cEnc xs)) (i : Nat) (hi : i < xs.length) : ∃ b off, s.a = some ⟨b, off, none⟩ ∧ ∀ X, Below w.heap.size w X → (ldT 53 ⟨b, off + i * 5, none⟩).run Tryd.prog X = .ok (.agg (cEnc xs[i])) X ∧ X.cell? ⟨b, off + i * 5, none⟩ = some (.string xs[i].nm) := by
  obtain ⟨b, off, e1, _, _⟩ := h.elem (fun _ => rfl) i hi
  refine ⟨b, off, e1, fun X hX => ?_⟩
  obtain ⟨b2, off2, e2, _, e3⟩ := (h.below hX).elem (fun _ => rfl) i hi
  rw [e1] at e2
  injection e2 with e2
  injection e2 with e2 e4
  subst e2 e4
  exact ⟨ldT_mid e3 Tryd.underlying53 rfl (by kernel_rfl), e3 0 _ rfl⟩
theorem prc_at {w X : World} {s : Sl} {xs : List (Pc × Sl)} (h : RdV w 3 s xs.length (flat pEnc xs)) (i : Nat) (hi : i < xs.length) : ∃ b off, s.a = some ⟨b, off, none⟩ ∧ ∀ X, Below w.heap.size w X → (ldT 63 ⟨b, off + i * 3, none⟩).run Tryd.prog X = .ok (.agg (pEnc xs[i])) X ∧ X.cell? ⟨b, off + i * 3, none⟩ = some (.string xs[i].1.nm) := by
  obtain ⟨b, off, e1, _, _⟩ := h.elem (fun _ => rfl) i hi
  refine ⟨b, off, e1, fun X hX => ?_⟩
  obtain ⟨b2, off2, e2, _, e3⟩ := (h.below hX).elem (fun _ => rfl) i hi
  rw [e1] at e2
  injection e2 with e2
  injection e2 with e2 e4
  subst e2 e4
  exact ⟨ldT_mid e3 Tryd.underlying63 rfl (by kernel_rfl), e3 0 _ rfl⟩
set_option maxHeartbeats 4000000 in
set_option maxRecDepth 20000 in
theorem rright_no (w : World) (c : Sc) (o : Sy) (l : List (Pc × Sl)) (hr : SyR w c o l) (hn : (nameB o.nm && (decide (o.cs.length ≤ 200) && decide (o.vs.length ≤ 200) && decide (o.ps.length ≤ 100))) = false) : Calls Tryd.prog 16 #[.agg c.cells] w fun e w' => e = .returned (.bool false) ∧ Below w.heap.size w w' := by
  have D0 := hid_of (SD.start w c)
  have k0 : (w.alloc (.cells c.cells 26)).cell? ⟨w.heap.size, 0, none⟩ = some (.string o.nm) := by rw [← hr.nm]; exact D0.out.bx.cell 0
  have k1 : (w.alloc (.cells c.cells 26)).cell? ⟨w.heap.size, 1, none⟩ = some (.slice c.cs.a c.cs.n c.cs.c) := D0.out.bx.cell 1
  have k2 : (w.alloc (.cells c.cells 26)).cell? ⟨w.heap.size, 2, none⟩ = some (.slice c.vs.a c.vs.n c.vs.c) := D0.out.bx.cell 2
  have k3 : (w.alloc (.cells c.cells 26)).cell? ⟨w.heap.size, 3, none⟩ = some (.slice c.ps.a c.ps.n c.ps.c) := D0.out.bx.cell 3
  have NM : Hid (∀ X, Calls Tryd.prog 35 #[.string o.nm] X fun e w' => e = .returned (.bool (nameB o.nm)) ∧ w' = X) := hid_of fun X => risName_any o.nm X hr.sz.1
  have n1 := hr.cs.len
  have n2 := hr.vs.len
  have n3 := hr.ps.len
  have n4 : l.length = o.ps.length := by rw [← hr.pl, List.length_map]
  have mc := hr.cs.most
  have mv := hr.vs.most
  have mp := hr.ps.most
  rw [← n1] at mc hn
  rw [← n2] at mv hn
  rw [← n4, ← n3] at hn
  rw [← n3] at mp
  clear hr n1 n2 n3 n4
  cases hb : nameB o.nm
  · go_enter Tryd.func16, Tryd.ntmps16
    go_wp2_with (go_at_call 35; refine (NM.out _).mono ?_; rintro e w1 ⟨rfl, hw⟩; rw [hw, hb]; clear hw)
    go_ret
    exact ⟨rfl, D0.out.be⟩
  · rw [hb, Bool.true_and] at hn
    by_cases h1 : c.cs.n ≤ 200
    · have d1 : decide ((200 : Int) < (c.cs.n : Int)) = false := decide_eq_false (by omega)
      by_cases h2 : c.vs.n ≤ 200
      · have d2 : decide ((200 : Int) < (c.vs.n : Int)) = false := decide_eq_false (by omega)
        have d3 : decide ((100 : Int) < (c.ps.n : Int)) = true := by
          by_cases h3 : c.ps.n ≤ 100
          · rw [decide_eq_true h1, decide_eq_true h2, decide_eq_true h3] at hn; cases hn
          · exact decide_eq_true (by omega)
        clear hn h1 h2
        go_enter Tryd.func16, Tryd.ntmps16
        go_wp2_with (go_at_call 35; refine (NM.out _).mono ?_; rintro e w1 ⟨rfl, hw⟩; rw [hw, hb]; clear hw)
        go_ret
        exact ⟨rfl, D0.out.be⟩
      · have d2 : decide ((200 : Int) < (c.vs.n : Int)) = true := decide_eq_true (by omega)
        clear hn h1 h2
        go_enter Tryd.func16, Tryd.ntmps16
        go_wp2_with (go_at_call 35; refine (NM.out _).mono ?_; rintro e w1 ⟨rfl, hw⟩; rw [hw, hb]; clear hw)
        go_ret
        exact ⟨rfl, D0.out.be⟩
    · have d1 : decide ((200 : Int) < (c.cs.n : Int)) = true := decide_eq_true (by omega)
      clear hn h1
      go_enter Tryd.func16, Tryd.ntmps16
      go_wp2_with (go_at_call 35; refine (NM.out _).mono ?_; rintro e w1 ⟨rfl, hw⟩; rw [hw, hb]; clear hw)
      go_ret
      exact ⟨rfl, D0.out.be⟩
set_option maxHeartbeats 32000000 in
set_option maxRecDepth 20000 in
theorem rright_yes (w : World) (c : Sc) (o : Sy) (l : List (Pc × Sl)) (hr : SyR w c o l) (hnm : nameB o.nm = true) (h1 : o.cs.length ≤ 200) (h2 : o.vs.length ≤ 200) (h3 : o.ps.length ≤ 100) : Calls Tryd.prog 16 #[.agg c.cells] w fun e w' => e = .returned (.bool (o.cs.all conD && o.vs.all varD && o.ps.all prcD && namesB (namesO o))) ∧ Below w.heap.size w w' := by
  have D0 := hid_of (SD.start w c)
  have k0 : (w.alloc (.cells c.cells 26)).cell? ⟨w.heap.size, 0, none⟩ = some (.string o.nm) := by rw [← hr.nm]; exact D0.out.bx.cell 0
  have k1 : (w.alloc (.cells c.cells 26)).cell? ⟨w.heap.size, 1, none⟩ = some (.slice c.cs.a c.cs.n c.cs.c) := D0.out.bx.cell 1
  have k2 : (w.alloc (.cells c.cells 26)).cell? ⟨w.heap.size, 2, none⟩ = some (.slice c.vs.a c.vs.n c.vs.c) := D0.out.bx.cell 2
  have k3 : (w.alloc (.cells c.cells 26)).cell? ⟨w.heap.size, 3, none⟩ = some (.slice c.ps.a c.ps.n c.ps.c) := D0.out.bx.cell 3
  have NM : Hid (∀ X, Calls Tryd.prog 35 #[.string o.nm] X fun e w' => e = .returned (.bool true) ∧ w' = X) := hid_of fun X => by rw [← hnm]; exact risName_any o.nm X hr.sz.1
  have PL : Hid (∀ x X, Calls Tryd.prog 37 #[.int .i64 x] X fun e w' => e = .returned (.bool (plainB x)) ∧ w' = X) := hid_of rPlain_any
  have SZ : Hid (∀ x X, Calls Tryd.prog 38 #[.int .i64 x] X fun e w' => e = .returned (.int .i64 (sizeI x)) ∧ w' = X) := hid_of rsize_any
  have e1 := hr.cs.len
  have e2 := hr.vs.len
  have e3 := hr.ps.len
  have e4 : l.length = o.ps.length := by rw [← hr.pl, List.length_map]
  have ec : Hid (c.cs.n = o.cs.length) := e1
  have ev : Hid (c.vs.n = o.vs.length) := e2
  have ep : Hid (c.ps.n = l.length) := e3
  have hm : o.ps = l.map (·.1) := hr.pl.symm
  have b1 : c.cs.n ≤ 200 := by omega
  have b2 : c.vs.n ≤ 200 := by omega
  have b3 : c.ps.n ≤ 100 := by omega
  have d1 : decide ((200 : Int) < (c.cs.n : Int)) = false := decide_eq_false (by omega)
  have d2 : decide ((200 : Int) < (c.vs.n : Int)) = false := decide_eq_false (by omega)
  have d3 : decide ((100 : Int) < (c.ps.n : Int)) = false := decide_eq_false (by omega)
  have EC : Hid (∀ i (hi : i < o.cs.length), ∃ b off, c.cs.a = some ⟨b, off, none⟩ ∧ ∀ X, Below w.heap.size w X → (ldT 53 ⟨b, off + i * 5, none⟩).run Tryd.prog X = .ok (.agg (cEnc o.cs[i])) X ∧ X.cell? ⟨b, off + i * 5, none⟩ = some (.string o.cs[i].nm)) := hid_of fun i hi => con_at (X := w) hr.cs i hi
  have EV : Hid (∀ X, Below w.heap.size w X → ∀ i (hi : i < o.vs.length), ∃ b off Z, c.vs.a = some ⟨b, off, none⟩ ∧ (ldT 69 ⟨b, off + i * 5, none⟩).run Tryd.prog X = .ok (.agg (vEnc o.vs[i])) X ∧ (stT 69 ⟨X.heap.size, 0, none⟩ (.agg (vEnc o.vs[i]))).run Tryd.prog (X.alloc (.cells zeroV 69)) = .ok () Z ∧ Hid (BA Z X.heap.size 69 (vEnc o.vs[i]) ∧ Below X.heap.size X Z)) := hid_of fun X hX i hi => box_par hr.vs hX i hi
  have EP : Hid (∀ i (hi : i < l.length), ∃ b off, c.ps.a = some ⟨b, off, none⟩ ∧ ∀ X, Below w.heap.size w X → (ldT 63 ⟨b, off + i * 3, none⟩).run Tryd.prog X = .ok (.agg (pEnc l[i])) X ∧ X.cell? ⟨b, off + i * 3, none⟩ = some (.string l[i].1.nm)) := hid_of fun i hi => prc_at (X := w) hr.ps i hi
  have PR : Hid (∀ X, Below w.heap.size w X → ∀ i (hi : i < l.length), Calls Tryd.prog 39 #[.agg (pEnc l[i])] X fun e w' => e = .returned (.bool (prcD l[i].1)) ∧ Below X.heap.size X w') := hid_of fun X hX i hi => rproc_any l[i] X ((hr.pp _ (List.getElem_mem hi)).below hX)
  have NA : Hid (∀ X v, SD w X c v (namesO o) → Calls Tryd.prog 40 #[v] X fun e w' => e = .returned (.bool (namesB (namesO o))) ∧ Below X.heap.size X w') := hid_of fun X v hX => by
    obtain ⟨a, n, k, rfl⟩ := own_slice hX.ow
    refine rnames_any X ⟨a, n, k⟩ (namesO o) (own_rdv (s := ⟨a, n, k⟩) hX.ow ?_) ?_
    · unfold namesO
      simp only [List.length_append, List.length_map]
      omega
    · intro x hx
      unfold namesO at hx
      rcases List.mem_append.1 hx with h | h
      · obtain ⟨y, hy, rfl⟩ := List.mem_map.1 h
        exact hr.sz.2.1 y hy
      · rcases List.mem_append.1 h with h | h
        · obtain ⟨y, hy, rfl⟩ := List.mem_map.1 h
          exact hr.sz.2.2.1 y hy
        · obtain ⟨y, hy, rfl⟩ := List.mem_map.1 h
          rw [hm] at hy
          obtain ⟨z, hz, rfl⟩ := List.mem_map.1 hy
          exact hr.sz.2.2.2 z hz
  have hns : namesO o = o.cs.map (·.nm) ++ (o.vs.map (·.nm) ++ l.map (·.1.nm)) := by unfold namesO; rw [hm, List.map_map]; rfl
  have hps : o.ps.all prcD = l.all (fun q => prcD q.1) := by rw [hm, List.all_map]; rfl
  rw [hns] at NA ⊢
  rw [hps]
  have HL := hid_of (And.intro h1 (And.intro h2 h3))
  clear hr hnm h1 h2 h3 e1 e2 e3 e4 hm hns hps
  generalize o.cs = Cs at *
  generalize o.vs = Vs0 at *
  generalize o.ps = Ps at *
  go_enter Tryd.func16, Tryd.ntmps16
  go_wp2_with (go_at_call 35; refine (NM.out _).mono ?_; rintro e w1 ⟨rfl, hw⟩; rw [hw]; clear hw)
  go_loopg [3, 4, 5] c.cs.n (fun gf t3 t4 t5 wx => ∃ (i : Nat) (b : Bool) (va : Option Addr) (vn vc : Nat), t3 = .bool b ∧ t4 = .slice va vn vc ∧ t5 = .int .i64 (i : Int) ∧ i + gf = c.cs.n ∧ Hid (b = (Cs.take i).all conD) ∧ Hid (SD w wx c (.slice va vn vc) ((Cs.take i).map (·.nm))))
  case atStart => exact ⟨0, true, none, 0, 0, rfl, rfl, rfl, by omega, hid_of rfl, D0.out⟩
  case round =>
    obtain ⟨i, b, va, vn, vc, rfl, rfl, rfl, hi, HB, HS⟩ := hrel
    have q1 : wr.cell? ⟨w.heap.size, 1, none⟩ = some (.slice c.cs.a c.cs.n c.cs.c) := HS.out.bx.cell 1
    by_cases hlt : i < c.cs.n
    · obtain ⟨g', rfl⟩ : ∃ g', gk = g' + 1 := ⟨gk - 1, by omega⟩
      have d4 : decide ((i : Int) < (c.cs.n : Int)) = true := decide_eq_true (by omega)
      have j0 : (0 : Int) ≤ (i : Int) := by omega
      have j1 : (i : Int) < (c.cs.n : Int) := by omega
      have hil : i < Cs.length := by rw [← ec.out]; exact hlt
      obtain ⟨gb, off, ha, hx⟩ := EC.out i hil
      have CN : Hid (Calls Tryd.prog 36 #[.agg (cEnc Cs[i])] wr fun e Y => e = .returned (.bool (conD Cs[i])) ∧ Y.cell? ⟨w.heap.size, 1, none⟩ = some (.slice c.cs.a c.cs.n c.cs.c) ∧ Y.cell? ⟨gb, off + i * 5, none⟩ = some (.string Cs[i].nm) ∧ ∃ (s : Sl) (Z : World), (appN #[46, 46] 46 #[.slice va vn vc, .slice (some ⟨Y.heap.size, 0, none⟩) 1 1]).run Tryd.prog (Y.alloc (.cells #[.string Cs[i].nm] 9)) = .ok (.slice s.a s.n s.c) Z ∧ Hid (SD w Z c (.slice s.a s.n s.c) ((Cs.take (i + 1)).map (·.nm)))) := hid_of ((rconstant_any Cs[i] wr).mono fun e Y hh => by
        have hS := HS.out.below hh.2
        obtain ⟨s, Z, z1, z2⟩ := hS.app (by rw [List.length_map, List.length_take]; omega) Cs[i].nm
        exact ⟨hh.1, hS.bx.cell 1, (hx Y hS.be).2, s, Z, z1, by rw [map_take _ _ _ hil]; exact z2.out.1⟩)
      have AP : ∃ (s : Sl) (Z : World), (appN #[46, 46] 46 #[.slice va vn vc, .slice (some ⟨wr.heap.size, 0, none⟩) 1 1]).run Tryd.prog (wr.alloc (.cells #[.string Cs[i].nm] 9)) = .ok (.slice s.a s.n s.c) Z ∧ Hid (SD w Z c (.slice s.a s.n s.c) ((Cs.take (i + 1)).map (·.nm))) := by
        obtain ⟨s, Z, z1, z2⟩ := HS.out.app (by rw [List.length_map, List.length_take]; omega) Cs[i].nm
        exact ⟨s, Z, z1, by rw [map_take _ _ _ hil]; exact z2.out.1⟩
      have HT := hid_of (all_take conD Cs i hil)
      obtain ⟨k0, k4⟩ := hx wr HS.out.be
      generalize Cs[i] = y at CN AP HT k0 k4
      rw [ha] at q1 CN
      clear hx hil HS ha
      cases b
      · obtain ⟨s, Z, z1, HZ⟩ := AP
        have HB2 : Hid (false = (Cs.take (i + 1)).all conD) := hid_of (by rw [HT.out, ← HB.out, Bool.false_and])
        clear CN HT HB k0
        go_wp2
        go_roundg g'
        case measure => omega
        case rel => exact ⟨i + 1, false, s.a, s.n, s.c, rfl, rfl, by simp, by omega, HB2.out, HZ.out⟩
      · have HB2 : Hid (conD y = (Cs.take (i + 1)).all conD) := hid_of (by rw [HT.out, ← HB.out, Bool.true_and])
        clear AP HT HB k4
        generalize cEnc y = ce at k0 CN
        go_wp2_with (go_at_call 36; refine CN.out.mono ?_; rintro e w2 ⟨rfl, q2, q3, s, Z, z1, HZ⟩)
        go_roundg g'
        case measure => omega
        case rel => exact ⟨i + 1, conD y, s.a, s.n, s.c, rfl, rfl, by simp, by omega, HB2.out, HZ.out⟩
    · have d4 : decide ((i : Int) < (c.cs.n : Int)) = false := decide_eq_false (by omega)
      have HB1 : Hid (b = Cs.all conD) := hid_of (by rw [HB.out, List.take_of_length_le (by rw [← ec.out]; omega)])
      have HS1 : Hid (SD w wr c (.slice va vn vc) (Cs.map (·.nm))) := hid_of (by have := HS.out; rw [List.take_of_length_le (by rw [← ec.out]; omega)] at this; exact this)
      clear HB HS EC
      go_wp2
      go_loopg [3, 4, 6, 7, 8] c.vs.n (fun gf t3 t4 t6 t7 t8 wx => ∃ (i : Nat) (b : Bool) (va : Option Addr) (vn vc : Nat), t3 = .bool b ∧ t4 = .slice va vn vc ∧ t6 = .int .i64 (i : Int) ∧ i + gf = c.vs.n ∧ Hid (b = (Cs.all conD && (Vs0.take i).all varD)) ∧ Hid (SD w wx c (.slice va vn vc) (Cs.map (·.nm) ++ (Vs0.take i).map (·.nm))))
      case atStart => exact ⟨0, b, va, vn, vc, rfl, rfl, rfl, by omega, hid_of (by rw [HB1.out]; simp), hid_of (by simpa using HS1.out)⟩
      case round =>
        obtain ⟨i, b, va, vn, vc, rfl, rfl, rfl, hi, HB, HS⟩ := hrel
        have q1 : wr.cell? ⟨w.heap.size, 2, none⟩ = some (.slice c.vs.a c.vs.n c.vs.c) := HS.out.bx.cell 2
        by_cases hlt : i < c.vs.n
        · obtain ⟨g', rfl⟩ : ∃ g', gk = g' + 1 := ⟨gk - 1, by omega⟩
          have d4 : decide ((i : Int) < (c.vs.n : Int)) = true := decide_eq_true (by omega)
          have j0 : (0 : Int) ≤ (i : Int) := by omega
          have j1 : (i : Int) < (c.vs.n : Int) := by omega
          have hil : i < Vs0.length := by rw [← ev.out]; exact hlt
          obtain ⟨gb, off, Z, ha, k4, k5, HZ⟩ := EV.out wr HS.out.be i hil
          have HT := all_take varD Vs0 i hil
          have HM := map_take (·.nm) Vs0 i hil
          have S1 := HS.out.below HZ.out.2
          have hlen : (Cs.map (·.nm) ++ (Vs0.take i).map (·.nm)).length ≤ 1000 := by
            have := HL.out
            simp only [List.length_append, List.length_map, List.length_take]
            omega
          have hne : (Value.slice va vn vc).ownBlock ≠ some wr.heap.size := fun e => by have := (World.ownsRow.lt HS.out.ow _ e).2; omega
          generalize Vs0[i] = y at k4 k5 HZ HT HM
          obtain ⟨s, Z2, z1, z2⟩ := S1.app hlen y.nm
          have H2 : Hid (SD w Z2 c (.slice s.a s.n s.c) (Cs.map (·.nm) ++ (Vs0.take (i + 1)).map (·.nm))) := hid_of (by rw [HM, ← List.append_assoc]; exact z2.out.1)
          have bx2 : BA Z2 wr.heap.size 69 (vEnc y) := (z2.out.2 _ HZ.out.1.lt hne).trans HZ.out.1
          have c0 : Z.cell? ⟨wr.heap.size, 0, none⟩ = some (.string y.nm) := HZ.out.1.cell 0
          have c1 : Z2.cell? ⟨wr.heap.size, 1, none⟩ = some (.int .i64 y.fm) := bx2.cell 1
          have c2 : Z2.cell? ⟨wr.heap.size, 2, none⟩ = some (.int .i64 y.ln) := bx2.cell 2
          have c3 : Z2.cell? ⟨wr.heap.size, 3, none⟩ = some (.bool y.op) := bx2.cell 3
          have c4 : Z2.cell? ⟨wr.heap.size, 4, none⟩ = some (.bool y.rf) := bx2.cell 4
          have HV : Hid (∀ r, (b && varD y) = r → r = (Cs.all conD && (Vs0.take (i + 1)).all varD)) := hid_of fun r h => by rw [← h, HT, HB.out, Bool.and_assoc]
          have H3 : Hid (SD w Z2.drew c (.slice s.a s.n s.c) (Cs.map (·.nm) ++ (Vs0.take (i + 1)).map (·.nm))) := hid_of (H2.out.below (bl_drew Z2))
          rw [ha] at q1
          unfold vEnc zeroV at *
          obtain ⟨ynm, yfm, yln, yop, yrf⟩ := y
          dsimp only at *
          clear HT HM S1 hlen hne z2 bx2 HZ HS HB hil ha HB1 HS1 D0
          have fin : Hid (∀ r, r = (Cs.all conD && (Vs0.take (i + 1)).all varD) → r = (Cs.all conD && (Vs0.take (i + 1)).all varD)) := hid_of fun r h => h
          clear fin
          cases b
          · have HB2 := hid_of (HV.out false (Bool.false_and _))
            clear HV
            go_wp2_with (go_at_call 37; refine (PL.out _ _).mono ?_; rintro e w2 ⟨rfl, hw⟩; rw [hw]; clear hw)
            go_region
            all_goals
              go_wp2_with fail
              go_roundg g'
              case measure => omega
              case rel => exact ⟨i + 1, false, s.a, s.n, s.c, rfl, rfl, by simp, by omega, HB2.out, H3.out⟩
          · cases hpl : plainB yfm
            · have HB2 := hid_of (HV.out false (by unfold varD; simp only [hpl, Bool.false_and, Bool.and_false]))
              clear HV
              go_wp2_with (go_at_call 37; refine (PL.out _ _).mono ?_; rintro e w2 ⟨rfl, hw⟩; rw [hw, hpl]; clear hw)
              go_region
              all_goals
                go_wp2_with fail
                go_roundg g'
                case measure => omega
                case rel => exact ⟨i + 1, false, s.a, s.n, s.c, rfl, rfl, by simp, by omega, HB2.out, H3.out⟩
            · by_cases p0 : 0 ≤ yln
              · have f0 : decide (0 ≤ yln) = true := decide_eq_true p0
                by_cases p1 : yln ≤ 16384
                · have f1 : decide (yln ≤ 16384) = true := decide_eq_true p1
                  have hz : 1 ≤ sizeI yfm ∧ sizeI yfm ≤ 4 := by unfold sizeI; split <;> omega
                  have SZ2 : Hid (∀ X, Calls Tryd.prog 38 #[.int .i64 yfm] X fun e w' => e = .returned (.int .i64 (sizeI yfm)) ∧ w' = X) := hid_of (SZ.out yfm)
                  by_cases p2 : yln * sizeI yfm ≤ 16384
                  · have f2 : decide (yln * sizeI yfm ≤ 16384) = true := decide_eq_true p2
                    cases yop
                    · cases yrf
                      · have HB2 := hid_of (HV.out true (by unfold varD; simp only [hpl, f0, f1, f2]; rfl))
                        clear HV
                        obtain ⟨pr, hpr⟩ : ∃ pr, pr = yln * sizeI yfm := ⟨_, rfl⟩
                        have hlo : 0 ≤ yln * sizeI yfm := Int.mul_nonneg p0 (by omega)
                        have hhi : yln * sizeI yfm ≤ 16384 * 4 := Int.mul_le_mul p1 hz.2 (by omega) (by omega)
                        have m1 : wrap64 (yln * sizeI yfm) = pr := by rw [hpr, IntWalk.wrap64_in] <;> omega
                        have m2 : IntKind.i64.wrap (yln * sizeI yfm) = pr := by rw [IntWalk.i64_left]; exact m1
                        rw [← hpr] at f2
                        clear hlo hhi hpr hz p2
                        generalize sizeI yfm = zz at *
                        go_wp2_with (go_at_call 37; refine (PL.out _ _).mono ?_; rintro e w2 ⟨rfl, hw⟩; rw [hw, hpl]; clear hw)
                        refine wp_region_held_drew (S := (fun X => X = Z2.drew)) (by kernel_rfl) rfl (fun hHeld => ?_)
                        refine wpAnyH_take (i := 0) (v := ?_) rfl (by kernel_rfl) (by kernel_rfl) (by kernel_rfl) (fun _ _ _ h => h) (Or.inl ⟨by kernel_rfl, ?y0n1⟩) hHeld ?r0n1
                        case y0n1 => (intro wq hSw; go_simp; try rfl)
                        simp only [Act.put, List.setIfInBounds_toArray, List.set_cons_zero, List.set_cons_succ]
                        refine wpAnyH_take (i := 1) (v := ?_) rfl (by kernel_rfl) (by kernel_rfl) (by kernel_rfl) (fun _ _ _ h => h) (Or.inl ⟨by kernel_rfl, ?y1n1⟩) hHeld ?r1n1
                        case y1n1 => (intro wq hSw; go_simp; try rfl)
                        simp only [Act.put, List.setIfInBounds_toArray, List.set_cons_zero, List.set_cons_succ]
                        refine wpAnyH_take (i := 2) (v := ?_) rfl (by kernel_rfl) (by kernel_rfl) (by kernel_rfl) (fun _ _ _ h => h) (Or.inl ⟨by kernel_rfl, ?y2n1⟩) hHeld ?r2n1
                        case y2n1 => (intro wq hSw; go_simp; try rfl)
                        simp only [Act.put, List.setIfInBounds_toArray, List.set_cons_zero, List.set_cons_succ]
                        refine wpAnyH_take (i := 3) (v := ?_) rfl (by kernel_rfl) (by kernel_rfl) (by kernel_rfl) (fun _ _ _ h => h) (Or.inl ⟨by kernel_rfl, ?y3n1⟩) hHeld ?r3n1
                        case y3n1 => (intro wq hSw; go_simp; try rfl)
                        simp only [Act.put, List.setIfInBounds_toArray, List.set_cons_zero, List.set_cons_succ]
                        refine wpAnyH_take (i := 4) (v := ?_) rfl (by kernel_rfl) (by kernel_rfl) (by kernel_rfl) (fun _ _ _ h => h) (Or.inl ⟨by kernel_rfl, ?y4n1⟩) hHeld ?r4n1
                        case y4n1 => (intro wq hSw; go_simp; try rfl)
                        simp only [Act.put, List.setIfInBounds_toArray, List.set_cons_zero, List.set_cons_succ]
                        refine wpAnyH_take (i := 5) (v := ?_) rfl (by kernel_rfl) (by kernel_rfl) (by kernel_rfl) (fun _ _ _ h => h) (Or.inl ⟨by kernel_rfl, ?y5n1⟩) hHeld ?r5n1
                        case y5n1 => (intro wq hSw; go_simp; try rfl)
                        simp only [Act.put, List.setIfInBounds_toArray, List.set_cons_zero, List.set_cons_succ]
                        refine wpAnyH_take (i := 6) (v := ?_) rfl (by kernel_rfl) (by kernel_rfl) (by kernel_rfl) (fun _ _ _ h => h) (Or.inl ⟨by kernel_rfl, ?y6n1⟩) hHeld ?r6n1
                        case y6n1 => (intro wq hSw; subst hSw; go_simp; try rfl)
                        simp only [Act.put, List.setIfInBounds_toArray, List.set_cons_zero, List.set_cons_succ]
                        refine wpAnyH_take (i := 7) (v := ?_) rfl (by kernel_rfl) (by kernel_rfl) (by kernel_rfl) (fun _ _ _ h => h) (Or.inl ⟨by kernel_rfl, ?y7n1⟩) hHeld ?r7n1
                        case y7n1 => (intro wq hSw; go_simp; try rfl)
                        simp only [Act.put, List.setIfInBounds_toArray, List.set_cons_zero, List.set_cons_succ]
                        refine wpAnyH_take (i := 8) (v := ?_) rfl (by kernel_rfl) (by kernel_rfl) (by kernel_rfl) (fun _ _ _ h => h) (Or.inl ⟨by kernel_rfl, ?y8n1⟩) hHeld ?r8n1
                        case y8n1 => (intro wq hSw; go_simp; try rfl)
                        simp only [Act.put, List.setIfInBounds_toArray, List.set_cons_zero, List.set_cons_succ]
                        refine wpAnyH_take (i := 9) (v := ?_) rfl (by kernel_rfl) (by kernel_rfl) (by kernel_rfl) (fun _ _ _ h => h) (Or.inl ⟨by kernel_rfl, ?y9n1⟩) hHeld ?r9n1
                        case y9n1 => (intro wq hSw; go_simp; try rfl)
                        simp only [Act.put, List.setIfInBounds_toArray, List.set_cons_zero, List.set_cons_succ]
                        refine wpAnyH_take (i := 10) (v := ?_) rfl (by kernel_rfl) (by kernel_rfl) (by kernel_rfl) (fun _ _ _ h => h) (Or.inl ⟨by kernel_rfl, ?y10n1⟩) hHeld ?r10n1
                        case y10n1 => (intro wq hSw; go_simp; try rfl)
                        simp only [Act.put, List.setIfInBounds_toArray, List.set_cons_zero, List.set_cons_succ]
                        refine wpAnyH_take (i := 11) (v := ?_) rfl (by kernel_rfl) (by kernel_rfl) (by kernel_rfl) (fun _ _ _ h => h) (Or.inl ⟨by kernel_rfl, ?y11n1⟩) hHeld ?r11n1
                        case y11n1 => (intro wq hSw; subst hSw; go_simp; try rfl)
                        simp only [Act.put, List.setIfInBounds_toArray, List.set_cons_zero, List.set_cons_succ]
                        refine wpAnyH_take (i := 12) (v := ?_) rfl (by kernel_rfl) (by kernel_rfl) (by kernel_rfl) (fun _ _ _ h => h) (Or.inl ⟨by kernel_rfl, ?y12n1⟩) hHeld ?r12n1
                        case y12n1 => (intro wq hSw; go_simp; try rfl)
                        simp only [Act.put, List.setIfInBounds_toArray, List.set_cons_zero, List.set_cons_succ]
                        refine wpAnyH_take (i := 13) (v := ?_) rfl (by kernel_rfl) (by kernel_rfl) (by kernel_rfl) (fun _ _ _ h => h) (Or.inl ⟨by kernel_rfl, ?y13n1⟩) hHeld ?r13n1
                        case y13n1 => (intro wq hSw; go_simp; try rfl)
                        simp only [Act.put, List.setIfInBounds_toArray, List.set_cons_zero, List.set_cons_succ]
                        refine wpAnyH_take (i := 14) (v := ?_) rfl (by kernel_rfl) (by kernel_rfl) (by kernel_rfl) (fun _ _ _ h => h) (Or.inl ⟨by kernel_rfl, ?y14n1⟩) hHeld ?r14n1
                        case y14n1 => (intro wq hSw; go_simp; try rfl)
                        simp only [Act.put, List.setIfInBounds_toArray, List.set_cons_zero, List.set_cons_succ]
                        refine wpAnyH_take (i := 15) (v := ?_) rfl (by kernel_rfl) (by kernel_rfl) (by kernel_rfl) (fun _ _ _ h => h) (Or.inl ⟨by kernel_rfl, ?y15n1⟩) hHeld ?r15n1
                        case y15n1 => (intro wq hSw; go_simp; try rfl)
                        simp only [Act.put, List.setIfInBounds_toArray, List.set_cons_zero, List.set_cons_succ]
                        refine wpAnyH_take (i := 16) (v := ?_) rfl (by kernel_rfl) (by kernel_rfl) (by kernel_rfl) (fun _ _ _ h => h) (Or.inl ⟨by kernel_rfl, ?y16n1⟩) hHeld ?r16n1
                        case y16n1 => (intro wq hSw; subst hSw; go_simp; try rfl)
                        simp only [Act.put, List.setIfInBounds_toArray, List.set_cons_zero, List.set_cons_succ]
                        refine wpAnyH_take (i := 17) (v := ?_) rfl (by kernel_rfl) (by kernel_rfl) (by kernel_rfl) (fun _ _ _ h => h) (Or.inl ⟨by kernel_rfl, ?y17n1⟩) hHeld ?r17n1
                        case y17n1 => (intro wq hSw; go_simp; try rfl)
                        simp only [Act.put, List.setIfInBounds_toArray, List.set_cons_zero, List.set_cons_succ]
                        refine wpAnyH_take (i := 18) (v := ?_) rfl (by kernel_rfl) (by kernel_rfl) (by kernel_rfl) (fun _ _ _ h => h) (Or.inl ⟨by kernel_rfl, ?y18n1⟩) hHeld ?r18n1
                        case y18n1 => (intro wq hSw; subst hSw; go_simp; try rfl)
                        simp only [Act.put, List.setIfInBounds_toArray, List.set_cons_zero, List.set_cons_succ]
                        refine wpAnyH_ready (rs := [19]) (by kernel_rfl) (by simp) ?_
                        refine AllReadyH.cons rfl (fun K hK => ?_) AllReadyH.nil
                        go_simp
                        go_wp2_with (go_at_call 38; refine (SZ2.out _).mono ?_; rintro e w3 ⟨rfl, hw⟩; have h9 : w3 = Z2.drew := hw; subst h9)
                        refine hK.out _ _ rfl (fun _ => ?_)
                        clear hK K
                        refine wpAnyH_take (i := 20) (v := ?_) rfl (by kernel_rfl) (by kernel_rfl) (by kernel_rfl) (fun _ _ _ h => h) (Or.inl ⟨by kernel_rfl, ?y20n1⟩) rfl ?r20n1
                        case y20n1 => (intro wq hSw; go_simp; try rfl)
                        simp only [Act.put, List.setIfInBounds_toArray, List.set_cons_zero, List.set_cons_succ]
                        refine wpAnyH_take (i := 21) (v := ?_) rfl (by kernel_rfl) (by kernel_rfl) (by kernel_rfl) (fun _ _ _ h => h) (Or.inl ⟨by kernel_rfl, ?y21n1⟩) rfl ?r21n1
                        case y21n1 => (intro wq hSw; go_simp; try rfl)
                        simp only [Act.put, List.setIfInBounds_toArray, List.set_cons_zero, List.set_cons_succ]
                        refine wpAnyH_take (i := 22) (v := ?_) rfl (by kernel_rfl) (by kernel_rfl) (by kernel_rfl) (fun _ _ _ h => h) (Or.inl ⟨by kernel_rfl, ?y22n1⟩) rfl ?r22n1
                        case y22n1 => (intro wq hSw; go_simp; try rfl)
                        simp only [Act.put, List.setIfInBounds_toArray, List.set_cons_zero, List.set_cons_succ]
                        refine wpAnyH_take (i := 23) (v := ?_) rfl (by kernel_rfl) (by kernel_rfl) (by kernel_rfl) (fun _ _ _ h => h) (Or.inl ⟨by kernel_rfl, ?y23n1⟩) rfl ?r23n1
                        case y23n1 => (intro wq hSw; go_simp; try rfl)
                        simp only [Act.put, List.setIfInBounds_toArray, List.set_cons_zero, List.set_cons_succ]
                        refine wpAnyH_take (i := 24) (v := ?_) rfl (by kernel_rfl) (by kernel_rfl) (by kernel_rfl) (fun _ _ _ h => h) (Or.inl ⟨by kernel_rfl, ?y24n1⟩) rfl ?r24n1
                        case y24n1 => (intro wq hSw; go_simp; try rfl)
                        simp only [Act.put, List.setIfInBounds_toArray, List.set_cons_zero, List.set_cons_succ]
                        refine wpAnyH_take (i := 25) (v := ?_) rfl (by kernel_rfl) (by kernel_rfl) (by kernel_rfl) (fun _ _ _ h => h) (Or.inl ⟨by kernel_rfl, ?y25n1⟩) rfl ?r25n1
                        case y25n1 => (intro wq hSw; subst hSw; go_simp; try rfl)
                        simp only [Act.put, List.setIfInBounds_toArray, List.set_cons_zero, List.set_cons_succ]
                        refine wpAnyH_take (i := 26) (v := ?_) rfl (by kernel_rfl) (by kernel_rfl) (by kernel_rfl) (fun _ _ _ h => h) (Or.inl ⟨by kernel_rfl, ?y26n1⟩) rfl ?r26n1
                        case y26n1 => (intro wq hSw; go_simp; try rfl)
                        simp only [Act.put, List.setIfInBounds_toArray, List.set_cons_zero, List.set_cons_succ]
                        refine wpAnyH_take (i := 27) (v := ?_) rfl (by kernel_rfl) (by kernel_rfl) (by kernel_rfl) (fun _ _ _ h => h) (Or.inl ⟨by kernel_rfl, ?y27n1⟩) rfl ?r27n1
                        case y27n1 => (intro wq hSw; go_simp; try rfl)
                        simp only [Act.put, List.setIfInBounds_toArray, List.set_cons_zero, List.set_cons_succ]
                        refine wpAnyH_take (i := 28) (v := ?_) rfl (by kernel_rfl) (by kernel_rfl) (by kernel_rfl) (fun _ _ _ h => h) (Or.inl ⟨by kernel_rfl, ?y28n1⟩) rfl ?r28n1
                        case y28n1 => (intro wq hSw; go_simp; try rfl)
                        simp only [Act.put, List.setIfInBounds_toArray, List.set_cons_zero, List.set_cons_succ]
                        refine wpAnyH_take (i := 29) (v := ?_) rfl (by kernel_rfl) (by kernel_rfl) (by kernel_rfl) (fun _ _ _ h => h) (Or.inl ⟨by kernel_rfl, ?y29n1⟩) rfl ?r29n1
                        case y29n1 => (intro wq hSw; go_simp; try rfl)
                        simp only [Act.put, List.setIfInBounds_toArray, List.set_cons_zero, List.set_cons_succ]
                        refine wpAnyH_take (i := 30) (v := ?_) rfl (by kernel_rfl) (by kernel_rfl) (by kernel_rfl) (fun _ _ _ h => h) (Or.inl ⟨by kernel_rfl, ?y30n1⟩) rfl ?r30n1
                        case y30n1 => (intro wq hSw; subst hSw; go_simp; try rfl)
                        simp only [Act.put, List.setIfInBounds_toArray, List.set_cons_zero, List.set_cons_succ]
                        refine wpAnyH_take (i := 31) (v := ?_) rfl (by kernel_rfl) (by kernel_rfl) (by kernel_rfl) (fun _ _ _ h => h) (Or.inl ⟨by kernel_rfl, ?y31n1⟩) rfl ?r31n1
                        case y31n1 => (intro wq hSw; go_simp; try rfl)
                        simp only [Act.put, List.setIfInBounds_toArray, List.set_cons_zero, List.set_cons_succ]
                        refine wpAnyH_ready (rs := [32]) (by kernel_rfl) (by simp) ?_
                        refine AllReadyH.cons rfl (fun K hK => ?_) AllReadyH.nil
                        go_simp
                        refine hK.out _ _ rfl (fun _ => ?_)
                        clear hK K
                        refine wpAnyH_ready (rs := [33]) (by kernel_rfl) (by simp) ?_
                        refine AllReadyH.cons rfl (fun K hK => ?_) AllReadyH.nil
                        go_simp
                        refine hK.out _ _ rfl (fun _ => ?_)
                        clear hK K
                        refine wpAnyH_done (by kernel_rfl) ?_ _
                        go_wp2_with fail
                        go_roundg g'
                        case measure => omega
                        case rel => exact ⟨i + 1, _, s.a, s.n, s.c, rfl, rfl, by simp, by omega, HB2.out, H3.out⟩
                      · have HB2 := hid_of (HV.out false (by unfold varD; simp only [hpl, f0, f1, f2]; rfl))
                        clear HV
                        obtain ⟨pr, hpr⟩ : ∃ pr, pr = yln * sizeI yfm := ⟨_, rfl⟩
                        have hlo : 0 ≤ yln * sizeI yfm := Int.mul_nonneg p0 (by omega)
                        have hhi : yln * sizeI yfm ≤ 16384 * 4 := Int.mul_le_mul p1 hz.2 (by omega) (by omega)
                        have m1 : wrap64 (yln * sizeI yfm) = pr := by rw [hpr, IntWalk.wrap64_in] <;> omega
                        have m2 : IntKind.i64.wrap (yln * sizeI yfm) = pr := by rw [IntWalk.i64_left]; exact m1
                        rw [← hpr] at f2
                        clear hlo hhi hpr hz p2
                        generalize sizeI yfm = zz at *
                        go_wp2_with (go_at_call 37; refine (PL.out _ _).mono ?_; rintro e w2 ⟨rfl, hw⟩; rw [hw, hpl]; clear hw)
                        refine wp_region_held_drew (S := (fun X => X = Z2.drew)) (by kernel_rfl) rfl (fun hHeld => ?_)
                        refine wpAnyH_take (i := 0) (v := ?_) rfl (by kernel_rfl) (by kernel_rfl) (by kernel_rfl) (fun _ _ _ h => h) (Or.inl ⟨by kernel_rfl, ?y0n2⟩) hHeld ?r0n2
                        case y0n2 => (intro wq hSw; go_simp; try rfl)
                        simp only [Act.put, List.setIfInBounds_toArray, List.set_cons_zero, List.set_cons_succ]
                        refine wpAnyH_take (i := 1) (v := ?_) rfl (by kernel_rfl) (by kernel_rfl) (by kernel_rfl) (fun _ _ _ h => h) (Or.inl ⟨by kernel_rfl, ?y1n2⟩) hHeld ?r1n2
                        case y1n2 => (intro wq hSw; go_simp; try rfl)
                        simp only [Act.put, List.setIfInBounds_toArray, List.set_cons_zero, List.set_cons_succ]
                        refine wpAnyH_take (i := 2) (v := ?_) rfl (by kernel_rfl) (by kernel_rfl) (by kernel_rfl) (fun _ _ _ h => h) (Or.inl ⟨by kernel_rfl, ?y2n2⟩) hHeld ?r2n2
                        case y2n2 => (intro wq hSw; go_simp; try rfl)
                        simp only [Act.put, List.setIfInBounds_toArray, List.set_cons_zero, List.set_cons_succ]
                        refine wpAnyH_take (i := 3) (v := ?_) rfl (by kernel_rfl) (by kernel_rfl) (by kernel_rfl) (fun _ _ _ h => h) (Or.inl ⟨by kernel_rfl, ?y3n2⟩) hHeld ?r3n2
                        case y3n2 => (intro wq hSw; go_simp; try rfl)
                        simp only [Act.put, List.setIfInBounds_toArray, List.set_cons_zero, List.set_cons_succ]
                        refine wpAnyH_take (i := 4) (v := ?_) rfl (by kernel_rfl) (by kernel_rfl) (by kernel_rfl) (fun _ _ _ h => h) (Or.inl ⟨by kernel_rfl, ?y4n2⟩) hHeld ?r4n2
                        case y4n2 => (intro wq hSw; go_simp; try rfl)
                        simp only [Act.put, List.setIfInBounds_toArray, List.set_cons_zero, List.set_cons_succ]
                        refine wpAnyH_take (i := 5) (v := ?_) rfl (by kernel_rfl) (by kernel_rfl) (by kernel_rfl) (fun _ _ _ h => h) (Or.inl ⟨by kernel_rfl, ?y5n2⟩) hHeld ?r5n2
                        case y5n2 => (intro wq hSw; go_simp; try rfl)
                        simp only [Act.put, List.setIfInBounds_toArray, List.set_cons_zero, List.set_cons_succ]
                        refine wpAnyH_take (i := 6) (v := ?_) rfl (by kernel_rfl) (by kernel_rfl) (by kernel_rfl) (fun _ _ _ h => h) (Or.inl ⟨by kernel_rfl, ?y6n2⟩) hHeld ?r6n2
                        case y6n2 => (intro wq hSw; subst hSw; go_simp; try rfl)
                        simp only [Act.put, List.setIfInBounds_toArray, List.set_cons_zero, List.set_cons_succ]
                        refine wpAnyH_take (i := 7) (v := ?_) rfl (by kernel_rfl) (by kernel_rfl) (by kernel_rfl) (fun _ _ _ h => h) (Or.inl ⟨by kernel_rfl, ?y7n2⟩) hHeld ?r7n2
                        case y7n2 => (intro wq hSw; go_simp; try rfl)
                        simp only [Act.put, List.setIfInBounds_toArray, List.set_cons_zero, List.set_cons_succ]
                        refine wpAnyH_take (i := 8) (v := ?_) rfl (by kernel_rfl) (by kernel_rfl) (by kernel_rfl) (fun _ _ _ h => h) (Or.inl ⟨by kernel_rfl, ?y8n2⟩) hHeld ?r8n2
                        case y8n2 => (intro wq hSw; go_simp; try rfl)
                        simp only [Act.put, List.setIfInBounds_toArray, List.set_cons_zero, List.set_cons_succ]
                        refine wpAnyH_take (i := 9) (v := ?_) rfl (by kernel_rfl) (by kernel_rfl) (by kernel_rfl) (fun _ _ _ h => h) (Or.inl ⟨by kernel_rfl, ?y9n2⟩) hHeld ?r9n2
                        case y9n2 => (intro wq hSw; go_simp; try rfl)
                        simp only [Act.put, List.setIfInBounds_toArray, List.set_cons_zero, List.set_cons_succ]
                        refine wpAnyH_take (i := 10) (v := ?_) rfl (by kernel_rfl) (by kernel_rfl) (by kernel_rfl) (fun _ _ _ h => h) (Or.inl ⟨by kernel_rfl, ?y10n2⟩) hHeld ?r10n2
                        case y10n2 => (intro wq hSw; go_simp; try rfl)
                        simp only [Act.put, List.setIfInBounds_toArray, List.set_cons_zero, List.set_cons_succ]
                        refine wpAnyH_take (i := 11) (v := ?_) rfl (by kernel_rfl) (by kernel_rfl) (by kernel_rfl) (fun _ _ _ h => h) (Or.inl ⟨by kernel_rfl, ?y11n2⟩) hHeld ?r11n2
                        case y11n2 => (intro wq hSw; subst hSw; go_simp; try rfl)
                        simp only [Act.put, List.setIfInBounds_toArray, List.set_cons_zero, List.set_cons_succ]
                        refine wpAnyH_take (i := 12) (v := ?_) rfl (by kernel_rfl) (by kernel_rfl) (by kernel_rfl) (fun _ _ _ h => h) (Or.inl ⟨by kernel_rfl, ?y12n2⟩) hHeld ?r12n2
                        case y12n2 => (intro wq hSw; go_simp; try rfl)
                        simp only [Act.put, List.setIfInBounds_toArray, List.set_cons_zero, List.set_cons_succ]
                        refine wpAnyH_take (i := 13) (v := ?_) rfl (by kernel_rfl) (by kernel_rfl) (by kernel_rfl) (fun _ _ _ h => h) (Or.inl ⟨by kernel_rfl, ?y13n2⟩) hHeld ?r13n2
                        case y13n2 => (intro wq hSw; go_simp; try rfl)
                        simp only [Act.put, List.setIfInBounds_toArray, List.set_cons_zero, List.set_cons_succ]
                        refine wpAnyH_take (i := 14) (v := ?_) rfl (by kernel_rfl) (by kernel_rfl) (by kernel_rfl) (fun _ _ _ h => h) (Or.inl ⟨by kernel_rfl, ?y14n2⟩) hHeld ?r14n2
                        case y14n2 => (intro wq hSw; go_simp; try rfl)
                        simp only [Act.put, List.setIfInBounds_toArray, List.set_cons_zero, List.set_cons_succ]
                        refine wpAnyH_take (i := 15) (v := ?_) rfl (by kernel_rfl) (by kernel_rfl) (by kernel_rfl) (fun _ _ _ h => h) (Or.inl ⟨by kernel_rfl, ?y15n2⟩) hHeld ?r15n2
                        case y15n2 => (intro wq hSw; go_simp; try rfl)
                        simp only [Act.put, List.setIfInBounds_toArray, List.set_cons_zero, List.set_cons_succ]
                        refine wpAnyH_take (i := 16) (v := ?_) rfl (by kernel_rfl) (by kernel_rfl) (by kernel_rfl) (fun _ _ _ h => h) (Or.inl ⟨by kernel_rfl, ?y16n2⟩) hHeld ?r16n2
                        case y16n2 => (intro wq hSw; subst hSw; go_simp; try rfl)
                        simp only [Act.put, List.setIfInBounds_toArray, List.set_cons_zero, List.set_cons_succ]
                        refine wpAnyH_take (i := 17) (v := ?_) rfl (by kernel_rfl) (by kernel_rfl) (by kernel_rfl) (fun _ _ _ h => h) (Or.inl ⟨by kernel_rfl, ?y17n2⟩) hHeld ?r17n2
                        case y17n2 => (intro wq hSw; go_simp; try rfl)
                        simp only [Act.put, List.setIfInBounds_toArray, List.set_cons_zero, List.set_cons_succ]
                        refine wpAnyH_take (i := 18) (v := ?_) rfl (by kernel_rfl) (by kernel_rfl) (by kernel_rfl) (fun _ _ _ h => h) (Or.inl ⟨by kernel_rfl, ?y18n2⟩) hHeld ?r18n2
                        case y18n2 => (intro wq hSw; subst hSw; go_simp; try rfl)
                        simp only [Act.put, List.setIfInBounds_toArray, List.set_cons_zero, List.set_cons_succ]
                        refine wpAnyH_ready (rs := [19]) (by kernel_rfl) (by simp) ?_
                        refine AllReadyH.cons rfl (fun K hK => ?_) AllReadyH.nil
                        go_simp
                        go_wp2_with (go_at_call 38; refine (SZ2.out _).mono ?_; rintro e w3 ⟨rfl, hw⟩; have h9 : w3 = Z2.drew := hw; subst h9)
                        refine hK.out _ _ rfl (fun _ => ?_)
                        clear hK K
                        refine wpAnyH_take (i := 20) (v := ?_) rfl (by kernel_rfl) (by kernel_rfl) (by kernel_rfl) (fun _ _ _ h => h) (Or.inl ⟨by kernel_rfl, ?y20n2⟩) rfl ?r20n2
                        case y20n2 => (intro wq hSw; go_simp; try rfl)
                        simp only [Act.put, List.setIfInBounds_toArray, List.set_cons_zero, List.set_cons_succ]
                        refine wpAnyH_take (i := 21) (v := ?_) rfl (by kernel_rfl) (by kernel_rfl) (by kernel_rfl) (fun _ _ _ h => h) (Or.inl ⟨by kernel_rfl, ?y21n2⟩) rfl ?r21n2
                        case y21n2 => (intro wq hSw; go_simp; try rfl)
                        simp only [Act.put, List.setIfInBounds_toArray, List.set_cons_zero, List.set_cons_succ]
                        refine wpAnyH_take (i := 22) (v := ?_) rfl (by kernel_rfl) (by kernel_rfl) (by kernel_rfl) (fun _ _ _ h => h) (Or.inl ⟨by kernel_rfl, ?y22n2⟩) rfl ?r22n2
                        case y22n2 => (intro wq hSw; go_simp; try rfl)
                        simp only [Act.put, List.setIfInBounds_toArray, List.set_cons_zero, List.set_cons_succ]
                        refine wpAnyH_take (i := 23) (v := ?_) rfl (by kernel_rfl) (by kernel_rfl) (by kernel_rfl) (fun _ _ _ h => h) (Or.inl ⟨by kernel_rfl, ?y23n2⟩) rfl ?r23n2
                        case y23n2 => (intro wq hSw; go_simp; try rfl)
                        simp only [Act.put, List.setIfInBounds_toArray, List.set_cons_zero, List.set_cons_succ]
                        refine wpAnyH_take (i := 24) (v := ?_) rfl (by kernel_rfl) (by kernel_rfl) (by kernel_rfl) (fun _ _ _ h => h) (Or.inl ⟨by kernel_rfl, ?y24n2⟩) rfl ?r24n2
                        case y24n2 => (intro wq hSw; go_simp; try rfl)
                        simp only [Act.put, List.setIfInBounds_toArray, List.set_cons_zero, List.set_cons_succ]
                        refine wpAnyH_take (i := 25) (v := ?_) rfl (by kernel_rfl) (by kernel_rfl) (by kernel_rfl) (fun _ _ _ h => h) (Or.inl ⟨by kernel_rfl, ?y25n2⟩) rfl ?r25n2
                        case y25n2 => (intro wq hSw; subst hSw; go_simp; try rfl)
                        simp only [Act.put, List.setIfInBounds_toArray, List.set_cons_zero, List.set_cons_succ]
                        refine wpAnyH_take (i := 26) (v := ?_) rfl (by kernel_rfl) (by kernel_rfl) (by kernel_rfl) (fun _ _ _ h => h) (Or.inl ⟨by kernel_rfl, ?y26n2⟩) rfl ?r26n2
                        case y26n2 => (intro wq hSw; go_simp; try rfl)
                        simp only [Act.put, List.setIfInBounds_toArray, List.set_cons_zero, List.set_cons_succ]
                        refine wpAnyH_take (i := 27) (v := ?_) rfl (by kernel_rfl) (by kernel_rfl) (by kernel_rfl) (fun _ _ _ h => h) (Or.inl ⟨by kernel_rfl, ?y27n2⟩) rfl ?r27n2
                        case y27n2 => (intro wq hSw; go_simp; try rfl)
                        simp only [Act.put, List.setIfInBounds_toArray, List.set_cons_zero, List.set_cons_succ]
                        refine wpAnyH_take (i := 28) (v := ?_) rfl (by kernel_rfl) (by kernel_rfl) (by kernel_rfl) (fun _ _ _ h => h) (Or.inl ⟨by kernel_rfl, ?y28n2⟩) rfl ?r28n2
                        case y28n2 => (intro wq hSw; go_simp; try rfl)
                        simp only [Act.put, List.setIfInBounds_toArray, List.set_cons_zero, List.set_cons_succ]
                        refine wpAnyH_take (i := 29) (v := ?_) rfl (by kernel_rfl) (by kernel_rfl) (by kernel_rfl) (fun _ _ _ h => h) (Or.inl ⟨by kernel_rfl, ?y29n2⟩) rfl ?r29n2
                        case y29n2 => (intro wq hSw; go_simp; try rfl)
                        simp only [Act.put, List.setIfInBounds_toArray, List.set_cons_zero, List.set_cons_succ]
                        refine wpAnyH_take (i := 30) (v := ?_) rfl (by kernel_rfl) (by kernel_rfl) (by kernel_rfl) (fun _ _ _ h => h) (Or.inl ⟨by kernel_rfl, ?y30n2⟩) rfl ?r30n2
                        case y30n2 => (intro wq hSw; subst hSw; go_simp; try rfl)
                        simp only [Act.put, List.setIfInBounds_toArray, List.set_cons_zero, List.set_cons_succ]
                        refine wpAnyH_take (i := 31) (v := ?_) rfl (by kernel_rfl) (by kernel_rfl) (by kernel_rfl) (fun _ _ _ h => h) (Or.inl ⟨by kernel_rfl, ?y31n2⟩) rfl ?r31n2
                        case y31n2 => (intro wq hSw; go_simp; try rfl)
                        simp only [Act.put, List.setIfInBounds_toArray, List.set_cons_zero, List.set_cons_succ]
                        refine wpAnyH_ready (rs := [32]) (by kernel_rfl) (by simp) ?_
                        refine AllReadyH.cons rfl (fun K hK => ?_) AllReadyH.nil
                        go_simp
                        refine hK.out _ _ rfl (fun _ => ?_)
                        clear hK K
                        refine wpAnyH_ready (rs := [33]) (by kernel_rfl) (by simp) ?_
                        refine AllReadyH.cons rfl (fun K hK => ?_) AllReadyH.nil
                        go_simp
                        refine hK.out _ _ rfl (fun _ => ?_)
                        clear hK K
                        refine wpAnyH_done (by kernel_rfl) ?_ _
                        go_wp2_with fail
                        go_roundg g'
                        case measure => omega
                        case rel => exact ⟨i + 1, _, s.a, s.n, s.c, rfl, rfl, by simp, by omega, HB2.out, H3.out⟩
                    · have HB2 := hid_of (HV.out false (by unfold varD; simp only [hpl, f0, f1, f2]; rfl))
                      clear HV
                      obtain ⟨pr, hpr⟩ : ∃ pr, pr = yln * sizeI yfm := ⟨_, rfl⟩
                      have hlo : 0 ≤ yln * sizeI yfm := Int.mul_nonneg p0 (by omega)
                      have hhi : yln * sizeI yfm ≤ 16384 * 4 := Int.mul_le_mul p1 hz.2 (by omega) (by omega)
                      have m1 : wrap64 (yln * sizeI yfm) = pr := by rw [hpr, IntWalk.wrap64_in] <;> omega
                      have m2 : IntKind.i64.wrap (yln * sizeI yfm) = pr := by rw [IntWalk.i64_left]; exact m1
                      rw [← hpr] at f2
                      clear hlo hhi hpr hz p2
                      generalize sizeI yfm = zz at *
                      go_wp2_with (go_at_call 37; refine (PL.out _ _).mono ?_; rintro e w2 ⟨rfl, hw⟩; rw [hw, hpl]; clear hw)
                      refine wp_region_held_drew (S := (fun X => X = Z2.drew)) (by kernel_rfl) rfl (fun hHeld => ?_)
                      refine wpAnyH_take (i := 0) (v := ?_) rfl (by kernel_rfl) (by kernel_rfl) (by kernel_rfl) (fun _ _ _ h => h) (Or.inl ⟨by kernel_rfl, ?y0n3⟩) hHeld ?r0n3
                      case y0n3 => (intro wq hSw; go_simp; try rfl)
                      simp only [Act.put, List.setIfInBounds_toArray, List.set_cons_zero, List.set_cons_succ]
                      refine wpAnyH_take (i := 1) (v := ?_) rfl (by kernel_rfl) (by kernel_rfl) (by kernel_rfl) (fun _ _ _ h => h) (Or.inl ⟨by kernel_rfl, ?y1n3⟩) hHeld ?r1n3
                      case y1n3 => (intro wq hSw; go_simp; try rfl)
                      simp only [Act.put, List.setIfInBounds_toArray, List.set_cons_zero, List.set_cons_succ]
                      refine wpAnyH_take (i := 2) (v := ?_) rfl (by kernel_rfl) (by kernel_rfl) (by kernel_rfl) (fun _ _ _ h => h) (Or.inl ⟨by kernel_rfl, ?y2n3⟩) hHeld ?r2n3
                      case y2n3 => (intro wq hSw; go_simp; try rfl)
                      simp only [Act.put, List.setIfInBounds_toArray, List.set_cons_zero, List.set_cons_succ]
                      refine wpAnyH_take (i := 3) (v := ?_) rfl (by kernel_rfl) (by kernel_rfl) (by kernel_rfl) (fun _ _ _ h => h) (Or.inl ⟨by kernel_rfl, ?y3n3⟩) hHeld ?r3n3
                      case y3n3 => (intro wq hSw; go_simp; try rfl)
                      simp only [Act.put, List.setIfInBounds_toArray, List.set_cons_zero, List.set_cons_succ]
                      refine wpAnyH_take (i := 4) (v := ?_) rfl (by kernel_rfl) (by kernel_rfl) (by kernel_rfl) (fun _ _ _ h => h) (Or.inl ⟨by kernel_rfl, ?y4n3⟩) hHeld ?r4n3
                      case y4n3 => (intro wq hSw; go_simp; try rfl)
                      simp only [Act.put, List.setIfInBounds_toArray, List.set_cons_zero, List.set_cons_succ]
                      refine wpAnyH_take (i := 5) (v := ?_) rfl (by kernel_rfl) (by kernel_rfl) (by kernel_rfl) (fun _ _ _ h => h) (Or.inl ⟨by kernel_rfl, ?y5n3⟩) hHeld ?r5n3
                      case y5n3 => (intro wq hSw; go_simp; try rfl)
                      simp only [Act.put, List.setIfInBounds_toArray, List.set_cons_zero, List.set_cons_succ]
                      refine wpAnyH_take (i := 6) (v := ?_) rfl (by kernel_rfl) (by kernel_rfl) (by kernel_rfl) (fun _ _ _ h => h) (Or.inl ⟨by kernel_rfl, ?y6n3⟩) hHeld ?r6n3
                      case y6n3 => (intro wq hSw; subst hSw; go_simp; try rfl)
                      simp only [Act.put, List.setIfInBounds_toArray, List.set_cons_zero, List.set_cons_succ]
                      refine wpAnyH_take (i := 7) (v := ?_) rfl (by kernel_rfl) (by kernel_rfl) (by kernel_rfl) (fun _ _ _ h => h) (Or.inl ⟨by kernel_rfl, ?y7n3⟩) hHeld ?r7n3
                      case y7n3 => (intro wq hSw; go_simp; try rfl)
                      simp only [Act.put, List.setIfInBounds_toArray, List.set_cons_zero, List.set_cons_succ]
                      refine wpAnyH_take (i := 8) (v := ?_) rfl (by kernel_rfl) (by kernel_rfl) (by kernel_rfl) (fun _ _ _ h => h) (Or.inl ⟨by kernel_rfl, ?y8n3⟩) hHeld ?r8n3
                      case y8n3 => (intro wq hSw; go_simp; try rfl)
                      simp only [Act.put, List.setIfInBounds_toArray, List.set_cons_zero, List.set_cons_succ]
                      refine wpAnyH_take (i := 9) (v := ?_) rfl (by kernel_rfl) (by kernel_rfl) (by kernel_rfl) (fun _ _ _ h => h) (Or.inl ⟨by kernel_rfl, ?y9n3⟩) hHeld ?r9n3
                      case y9n3 => (intro wq hSw; go_simp; try rfl)
                      simp only [Act.put, List.setIfInBounds_toArray, List.set_cons_zero, List.set_cons_succ]
                      refine wpAnyH_take (i := 10) (v := ?_) rfl (by kernel_rfl) (by kernel_rfl) (by kernel_rfl) (fun _ _ _ h => h) (Or.inl ⟨by kernel_rfl, ?y10n3⟩) hHeld ?r10n3
                      case y10n3 => (intro wq hSw; go_simp; try rfl)
                      simp only [Act.put, List.setIfInBounds_toArray, List.set_cons_zero, List.set_cons_succ]
                      refine wpAnyH_take (i := 11) (v := ?_) rfl (by kernel_rfl) (by kernel_rfl) (by kernel_rfl) (fun _ _ _ h => h) (Or.inl ⟨by kernel_rfl, ?y11n3⟩) hHeld ?r11n3
                      case y11n3 => (intro wq hSw; subst hSw; go_simp; try rfl)
                      simp only [Act.put, List.setIfInBounds_toArray, List.set_cons_zero, List.set_cons_succ]
                      refine wpAnyH_take (i := 12) (v := ?_) rfl (by kernel_rfl) (by kernel_rfl) (by kernel_rfl) (fun _ _ _ h => h) (Or.inl ⟨by kernel_rfl, ?y12n3⟩) hHeld ?r12n3
                      case y12n3 => (intro wq hSw; go_simp; try rfl)
                      simp only [Act.put, List.setIfInBounds_toArray, List.set_cons_zero, List.set_cons_succ]
                      refine wpAnyH_take (i := 13) (v := ?_) rfl (by kernel_rfl) (by kernel_rfl) (by kernel_rfl) (fun _ _ _ h => h) (Or.inl ⟨by kernel_rfl, ?y13n3⟩) hHeld ?r13n3
                      case y13n3 => (intro wq hSw; go_simp; try rfl)
                      simp only [Act.put, List.setIfInBounds_toArray, List.set_cons_zero, List.set_cons_succ]
                      refine wpAnyH_take (i := 14) (v := ?_) rfl (by kernel_rfl) (by kernel_rfl) (by kernel_rfl) (fun _ _ _ h => h) (Or.inl ⟨by kernel_rfl, ?y14n3⟩) hHeld ?r14n3
                      case y14n3 => (intro wq hSw; go_simp; try rfl)
                      simp only [Act.put, List.setIfInBounds_toArray, List.set_cons_zero, List.set_cons_succ]
                      refine wpAnyH_take (i := 15) (v := ?_) rfl (by kernel_rfl) (by kernel_rfl) (by kernel_rfl) (fun _ _ _ h => h) (Or.inl ⟨by kernel_rfl, ?y15n3⟩) hHeld ?r15n3
                      case y15n3 => (intro wq hSw; go_simp; try rfl)
                      simp only [Act.put, List.setIfInBounds_toArray, List.set_cons_zero, List.set_cons_succ]
                      refine wpAnyH_take (i := 16) (v := ?_) rfl (by kernel_rfl) (by kernel_rfl) (by kernel_rfl) (fun _ _ _ h => h) (Or.inl ⟨by kernel_rfl, ?y16n3⟩) hHeld ?r16n3
                      case y16n3 => (intro wq hSw; subst hSw; go_simp; try rfl)
                      simp only [Act.put, List.setIfInBounds_toArray, List.set_cons_zero, List.set_cons_succ]
                      refine wpAnyH_take (i := 17) (v := ?_) rfl (by kernel_rfl) (by kernel_rfl) (by kernel_rfl) (fun _ _ _ h => h) (Or.inl ⟨by kernel_rfl, ?y17n3⟩) hHeld ?r17n3
                      case y17n3 => (intro wq hSw; go_simp; try rfl)
                      simp only [Act.put, List.setIfInBounds_toArray, List.set_cons_zero, List.set_cons_succ]
                      refine wpAnyH_take (i := 18) (v := ?_) rfl (by kernel_rfl) (by kernel_rfl) (by kernel_rfl) (fun _ _ _ h => h) (Or.inl ⟨by kernel_rfl, ?y18n3⟩) hHeld ?r18n3
                      case y18n3 => (intro wq hSw; subst hSw; go_simp; try rfl)
                      simp only [Act.put, List.setIfInBounds_toArray, List.set_cons_zero, List.set_cons_succ]
                      refine wpAnyH_ready (rs := [19]) (by kernel_rfl) (by simp) ?_
                      refine AllReadyH.cons rfl (fun K hK => ?_) AllReadyH.nil
                      go_simp
                      go_wp2_with (go_at_call 38; refine (SZ2.out _).mono ?_; rintro e w3 ⟨rfl, hw⟩; have h9 : w3 = Z2.drew := hw; subst h9)
                      refine hK.out _ _ rfl (fun _ => ?_)
                      clear hK K
                      refine wpAnyH_take (i := 20) (v := ?_) rfl (by kernel_rfl) (by kernel_rfl) (by kernel_rfl) (fun _ _ _ h => h) (Or.inl ⟨by kernel_rfl, ?y20n3⟩) rfl ?r20n3
                      case y20n3 => (intro wq hSw; go_simp; try rfl)
                      simp only [Act.put, List.setIfInBounds_toArray, List.set_cons_zero, List.set_cons_succ]
                      refine wpAnyH_take (i := 21) (v := ?_) rfl (by kernel_rfl) (by kernel_rfl) (by kernel_rfl) (fun _ _ _ h => h) (Or.inl ⟨by kernel_rfl, ?y21n3⟩) rfl ?r21n3
                      case y21n3 => (intro wq hSw; go_simp; try rfl)
                      simp only [Act.put, List.setIfInBounds_toArray, List.set_cons_zero, List.set_cons_succ]
                      refine wpAnyH_take (i := 22) (v := ?_) rfl (by kernel_rfl) (by kernel_rfl) (by kernel_rfl) (fun _ _ _ h => h) (Or.inl ⟨by kernel_rfl, ?y22n3⟩) rfl ?r22n3
                      case y22n3 => (intro wq hSw; go_simp; try rfl)
                      simp only [Act.put, List.setIfInBounds_toArray, List.set_cons_zero, List.set_cons_succ]
                      refine wpAnyH_take (i := 23) (v := ?_) rfl (by kernel_rfl) (by kernel_rfl) (by kernel_rfl) (fun _ _ _ h => h) (Or.inl ⟨by kernel_rfl, ?y23n3⟩) rfl ?r23n3
                      case y23n3 => (intro wq hSw; go_simp; try rfl)
                      simp only [Act.put, List.setIfInBounds_toArray, List.set_cons_zero, List.set_cons_succ]
                      refine wpAnyH_take (i := 24) (v := ?_) rfl (by kernel_rfl) (by kernel_rfl) (by kernel_rfl) (fun _ _ _ h => h) (Or.inl ⟨by kernel_rfl, ?y24n3⟩) rfl ?r24n3
                      case y24n3 => (intro wq hSw; go_simp; try rfl)
                      simp only [Act.put, List.setIfInBounds_toArray, List.set_cons_zero, List.set_cons_succ]
                      refine wpAnyH_take (i := 25) (v := ?_) rfl (by kernel_rfl) (by kernel_rfl) (by kernel_rfl) (fun _ _ _ h => h) (Or.inl ⟨by kernel_rfl, ?y25n3⟩) rfl ?r25n3
                      case y25n3 => (intro wq hSw; subst hSw; go_simp; try rfl)
                      simp only [Act.put, List.setIfInBounds_toArray, List.set_cons_zero, List.set_cons_succ]
                      refine wpAnyH_take (i := 26) (v := ?_) rfl (by kernel_rfl) (by kernel_rfl) (by kernel_rfl) (fun _ _ _ h => h) (Or.inl ⟨by kernel_rfl, ?y26n3⟩) rfl ?r26n3
                      case y26n3 => (intro wq hSw; go_simp; try rfl)
                      simp only [Act.put, List.setIfInBounds_toArray, List.set_cons_zero, List.set_cons_succ]
                      refine wpAnyH_take (i := 27) (v := ?_) rfl (by kernel_rfl) (by kernel_rfl) (by kernel_rfl) (fun _ _ _ h => h) (Or.inl ⟨by kernel_rfl, ?y27n3⟩) rfl ?r27n3
                      case y27n3 => (intro wq hSw; go_simp; try rfl)
                      simp only [Act.put, List.setIfInBounds_toArray, List.set_cons_zero, List.set_cons_succ]
                      refine wpAnyH_take (i := 28) (v := ?_) rfl (by kernel_rfl) (by kernel_rfl) (by kernel_rfl) (fun _ _ _ h => h) (Or.inl ⟨by kernel_rfl, ?y28n3⟩) rfl ?r28n3
                      case y28n3 => (intro wq hSw; go_simp; try rfl)
                      simp only [Act.put, List.setIfInBounds_toArray, List.set_cons_zero, List.set_cons_succ]
                      refine wpAnyH_take (i := 29) (v := undef) rfl (by kernel_rfl) (by kernel_rfl) (by kernel_rfl) (fun _ _ _ h => h) (Or.inr ⟨by kernel_rfl, rfl⟩) rfl ?r29n3
                      simp only [Act.put, List.setIfInBounds_toArray, List.set_cons_zero, List.set_cons_succ]
                      refine wpAnyH_take (i := 30) (v := undef) rfl (by kernel_rfl) (by kernel_rfl) (by kernel_rfl) (fun _ _ _ h => h) (Or.inr ⟨by kernel_rfl, rfl⟩) rfl ?r30n3
                      simp only [Act.put, List.setIfInBounds_toArray, List.set_cons_zero, List.set_cons_succ]
                      refine wpAnyH_take (i := 31) (v := undef) rfl (by kernel_rfl) (by kernel_rfl) (by kernel_rfl) (fun _ _ _ h => h) (Or.inr ⟨by kernel_rfl, rfl⟩) rfl ?r31n3
                      simp only [Act.put, List.setIfInBounds_toArray, List.set_cons_zero, List.set_cons_succ]
                      refine wpAnyH_ready (rs := [32]) (by kernel_rfl) (by simp) ?_
                      refine AllReadyH.cons rfl (fun K hK => ?_) AllReadyH.nil
                      go_simp
                      refine hK.out _ _ rfl (fun _ => ?_)
                      clear hK K
                      refine wpAnyH_ready (rs := [33]) (by kernel_rfl) (by simp) ?_
                      refine AllReadyH.cons rfl (fun K hK => ?_) AllReadyH.nil
                      go_simp
                      refine hK.out _ _ rfl (fun _ => ?_)
                      clear hK K
                      refine wpAnyH_done (by kernel_rfl) ?_ _
                      go_wp2_with fail
                      go_roundg g'
                      case measure => omega
                      case rel => exact ⟨i + 1, _, s.a, s.n, s.c, rfl, rfl, by simp, by omega, HB2.out, H3.out⟩
                  · have f2 : decide (yln * sizeI yfm ≤ 16384) = false := decide_eq_false p2
                    have HB2 := hid_of (HV.out false (by unfold varD; simp only [hpl, f0, f1, f2]; rfl))
                    clear HV
                    obtain ⟨pr, hpr⟩ : ∃ pr, pr = yln * sizeI yfm := ⟨_, rfl⟩
                    have hlo : 0 ≤ yln * sizeI yfm := Int.mul_nonneg p0 (by omega)
                    have hhi : yln * sizeI yfm ≤ 16384 * 4 := Int.mul_le_mul p1 hz.2 (by omega) (by omega)
                    have m1 : wrap64 (yln * sizeI yfm) = pr := by rw [hpr, IntWalk.wrap64_in] <;> omega
                    have m2 : IntKind.i64.wrap (yln * sizeI yfm) = pr := by rw [IntWalk.i64_left]; exact m1
                    rw [← hpr] at f2
                    clear hlo hhi hpr hz p2
                    generalize sizeI yfm = zz at *
                    go_wp2_with (go_at_call 37; refine (PL.out _ _).mono ?_; rintro e w2 ⟨rfl, hw⟩; rw [hw, hpl]; clear hw)
                    refine wp_region_held_drew (S := (fun X => X = Z2.drew)) (by kernel_rfl) rfl (fun hHeld => ?_)
                    refine wpAnyH_take (i := 0) (v := ?_) rfl (by kernel_rfl) (by kernel_rfl) (by kernel_rfl) (fun _ _ _ h => h) (Or.inl ⟨by kernel_rfl, ?y0n4⟩) hHeld ?r0n4
                    case y0n4 => (intro wq hSw; go_simp; try rfl)
                    simp only [Act.put, List.setIfInBounds_toArray, List.set_cons_zero, List.set_cons_succ]
                    refine wpAnyH_take (i := 1) (v := ?_) rfl (by kernel_rfl) (by kernel_rfl) (by kernel_rfl) (fun _ _ _ h => h) (Or.inl ⟨by kernel_rfl, ?y1n4⟩) hHeld ?r1n4
                    case y1n4 => (intro wq hSw; go_simp; try rfl)
                    simp only [Act.put, List.setIfInBounds_toArray, List.set_cons_zero, List.set_cons_succ]
                    refine wpAnyH_take (i := 2) (v := ?_) rfl (by kernel_rfl) (by kernel_rfl) (by kernel_rfl) (fun _ _ _ h => h) (Or.inl ⟨by kernel_rfl, ?y2n4⟩) hHeld ?r2n4
                    case y2n4 => (intro wq hSw; go_simp; try rfl)
                    simp only [Act.put, List.setIfInBounds_toArray, List.set_cons_zero, List.set_cons_succ]
                    refine wpAnyH_take (i := 3) (v := ?_) rfl (by kernel_rfl) (by kernel_rfl) (by kernel_rfl) (fun _ _ _ h => h) (Or.inl ⟨by kernel_rfl, ?y3n4⟩) hHeld ?r3n4
                    case y3n4 => (intro wq hSw; go_simp; try rfl)
                    simp only [Act.put, List.setIfInBounds_toArray, List.set_cons_zero, List.set_cons_succ]
                    refine wpAnyH_take (i := 4) (v := ?_) rfl (by kernel_rfl) (by kernel_rfl) (by kernel_rfl) (fun _ _ _ h => h) (Or.inl ⟨by kernel_rfl, ?y4n4⟩) hHeld ?r4n4
                    case y4n4 => (intro wq hSw; go_simp; try rfl)
                    simp only [Act.put, List.setIfInBounds_toArray, List.set_cons_zero, List.set_cons_succ]
                    refine wpAnyH_take (i := 5) (v := ?_) rfl (by kernel_rfl) (by kernel_rfl) (by kernel_rfl) (fun _ _ _ h => h) (Or.inl ⟨by kernel_rfl, ?y5n4⟩) hHeld ?r5n4
                    case y5n4 => (intro wq hSw; go_simp; try rfl)
                    simp only [Act.put, List.setIfInBounds_toArray, List.set_cons_zero, List.set_cons_succ]
                    refine wpAnyH_take (i := 6) (v := ?_) rfl (by kernel_rfl) (by kernel_rfl) (by kernel_rfl) (fun _ _ _ h => h) (Or.inl ⟨by kernel_rfl, ?y6n4⟩) hHeld ?r6n4
                    case y6n4 => (intro wq hSw; subst hSw; go_simp; try rfl)
                    simp only [Act.put, List.setIfInBounds_toArray, List.set_cons_zero, List.set_cons_succ]
                    refine wpAnyH_take (i := 7) (v := ?_) rfl (by kernel_rfl) (by kernel_rfl) (by kernel_rfl) (fun _ _ _ h => h) (Or.inl ⟨by kernel_rfl, ?y7n4⟩) hHeld ?r7n4
                    case y7n4 => (intro wq hSw; go_simp; try rfl)
                    simp only [Act.put, List.setIfInBounds_toArray, List.set_cons_zero, List.set_cons_succ]
                    refine wpAnyH_take (i := 8) (v := ?_) rfl (by kernel_rfl) (by kernel_rfl) (by kernel_rfl) (fun _ _ _ h => h) (Or.inl ⟨by kernel_rfl, ?y8n4⟩) hHeld ?r8n4
                    case y8n4 => (intro wq hSw; go_simp; try rfl)
                    simp only [Act.put, List.setIfInBounds_toArray, List.set_cons_zero, List.set_cons_succ]
                    refine wpAnyH_take (i := 9) (v := ?_) rfl (by kernel_rfl) (by kernel_rfl) (by kernel_rfl) (fun _ _ _ h => h) (Or.inl ⟨by kernel_rfl, ?y9n4⟩) hHeld ?r9n4
                    case y9n4 => (intro wq hSw; go_simp; try rfl)
                    simp only [Act.put, List.setIfInBounds_toArray, List.set_cons_zero, List.set_cons_succ]
                    refine wpAnyH_take (i := 10) (v := ?_) rfl (by kernel_rfl) (by kernel_rfl) (by kernel_rfl) (fun _ _ _ h => h) (Or.inl ⟨by kernel_rfl, ?y10n4⟩) hHeld ?r10n4
                    case y10n4 => (intro wq hSw; go_simp; try rfl)
                    simp only [Act.put, List.setIfInBounds_toArray, List.set_cons_zero, List.set_cons_succ]
                    refine wpAnyH_take (i := 11) (v := ?_) rfl (by kernel_rfl) (by kernel_rfl) (by kernel_rfl) (fun _ _ _ h => h) (Or.inl ⟨by kernel_rfl, ?y11n4⟩) hHeld ?r11n4
                    case y11n4 => (intro wq hSw; subst hSw; go_simp; try rfl)
                    simp only [Act.put, List.setIfInBounds_toArray, List.set_cons_zero, List.set_cons_succ]
                    refine wpAnyH_take (i := 12) (v := ?_) rfl (by kernel_rfl) (by kernel_rfl) (by kernel_rfl) (fun _ _ _ h => h) (Or.inl ⟨by kernel_rfl, ?y12n4⟩) hHeld ?r12n4
                    case y12n4 => (intro wq hSw; go_simp; try rfl)
                    simp only [Act.put, List.setIfInBounds_toArray, List.set_cons_zero, List.set_cons_succ]
                    refine wpAnyH_take (i := 13) (v := ?_) rfl (by kernel_rfl) (by kernel_rfl) (by kernel_rfl) (fun _ _ _ h => h) (Or.inl ⟨by kernel_rfl, ?y13n4⟩) hHeld ?r13n4
                    case y13n4 => (intro wq hSw; go_simp; try rfl)
                    simp only [Act.put, List.setIfInBounds_toArray, List.set_cons_zero, List.set_cons_succ]
                    refine wpAnyH_take (i := 14) (v := ?_) rfl (by kernel_rfl) (by kernel_rfl) (by kernel_rfl) (fun _ _ _ h => h) (Or.inl ⟨by kernel_rfl, ?y14n4⟩) hHeld ?r14n4
                    case y14n4 => (intro wq hSw; go_simp; try rfl)
                    simp only [Act.put, List.setIfInBounds_toArray, List.set_cons_zero, List.set_cons_succ]
                    refine wpAnyH_take (i := 15) (v := ?_) rfl (by kernel_rfl) (by kernel_rfl) (by kernel_rfl) (fun _ _ _ h => h) (Or.inl ⟨by kernel_rfl, ?y15n4⟩) hHeld ?r15n4
                    case y15n4 => (intro wq hSw; go_simp; try rfl)
                    simp only [Act.put, List.setIfInBounds_toArray, List.set_cons_zero, List.set_cons_succ]
                    refine wpAnyH_take (i := 16) (v := ?_) rfl (by kernel_rfl) (by kernel_rfl) (by kernel_rfl) (fun _ _ _ h => h) (Or.inl ⟨by kernel_rfl, ?y16n4⟩) hHeld ?r16n4
                    case y16n4 => (intro wq hSw; subst hSw; go_simp; try rfl)
                    simp only [Act.put, List.setIfInBounds_toArray, List.set_cons_zero, List.set_cons_succ]
                    refine wpAnyH_take (i := 17) (v := ?_) rfl (by kernel_rfl) (by kernel_rfl) (by kernel_rfl) (fun _ _ _ h => h) (Or.inl ⟨by kernel_rfl, ?y17n4⟩) hHeld ?r17n4
                    case y17n4 => (intro wq hSw; go_simp; try rfl)
                    simp only [Act.put, List.setIfInBounds_toArray, List.set_cons_zero, List.set_cons_succ]
                    refine wpAnyH_take (i := 18) (v := ?_) rfl (by kernel_rfl) (by kernel_rfl) (by kernel_rfl) (fun _ _ _ h => h) (Or.inl ⟨by kernel_rfl, ?y18n4⟩) hHeld ?r18n4
                    case y18n4 => (intro wq hSw; subst hSw; go_simp; try rfl)
                    simp only [Act.put, List.setIfInBounds_toArray, List.set_cons_zero, List.set_cons_succ]
                    refine wpAnyH_ready (rs := [19]) (by kernel_rfl) (by simp) ?_
                    refine AllReadyH.cons rfl (fun K hK => ?_) AllReadyH.nil
                    go_simp
                    go_wp2_with (go_at_call 38; refine (SZ2.out _).mono ?_; rintro e w3 ⟨rfl, hw⟩; have h9 : w3 = Z2.drew := hw; subst h9)
                    refine hK.out _ _ rfl (fun _ => ?_)
                    clear hK K
                    refine wpAnyH_take (i := 20) (v := ?_) rfl (by kernel_rfl) (by kernel_rfl) (by kernel_rfl) (fun _ _ _ h => h) (Or.inl ⟨by kernel_rfl, ?y20n4⟩) rfl ?r20n4
                    case y20n4 => (intro wq hSw; go_simp; try rfl)
                    simp only [Act.put, List.setIfInBounds_toArray, List.set_cons_zero, List.set_cons_succ]
                    refine wpAnyH_take (i := 21) (v := ?_) rfl (by kernel_rfl) (by kernel_rfl) (by kernel_rfl) (fun _ _ _ h => h) (Or.inl ⟨by kernel_rfl, ?y21n4⟩) rfl ?r21n4
                    case y21n4 => (intro wq hSw; go_simp; try rfl)
                    simp only [Act.put, List.setIfInBounds_toArray, List.set_cons_zero, List.set_cons_succ]
                    refine wpAnyH_take (i := 22) (v := ?_) rfl (by kernel_rfl) (by kernel_rfl) (by kernel_rfl) (fun _ _ _ h => h) (Or.inl ⟨by kernel_rfl, ?y22n4⟩) rfl ?r22n4
                    case y22n4 => (intro wq hSw; go_simp; try rfl)
                    simp only [Act.put, List.setIfInBounds_toArray, List.set_cons_zero, List.set_cons_succ]
                    refine wpAnyH_take (i := 23) (v := ?_) rfl (by kernel_rfl) (by kernel_rfl) (by kernel_rfl) (fun _ _ _ h => h) (Or.inl ⟨by kernel_rfl, ?y23n4⟩) rfl ?r23n4
                    case y23n4 => (intro wq hSw; go_simp; try rfl)
                    simp only [Act.put, List.setIfInBounds_toArray, List.set_cons_zero, List.set_cons_succ]
                    refine wpAnyH_take (i := 24) (v := undef) rfl (by kernel_rfl) (by kernel_rfl) (by kernel_rfl) (fun _ _ _ h => h) (Or.inr ⟨by kernel_rfl, rfl⟩) rfl ?r24n4
                    simp only [Act.put, List.setIfInBounds_toArray, List.set_cons_zero, List.set_cons_succ]
                    refine wpAnyH_take (i := 25) (v := undef) rfl (by kernel_rfl) (by kernel_rfl) (by kernel_rfl) (fun _ _ _ h => h) (Or.inr ⟨by kernel_rfl, rfl⟩) rfl ?r25n4
                    simp only [Act.put, List.setIfInBounds_toArray, List.set_cons_zero, List.set_cons_succ]
                    refine wpAnyH_take (i := 26) (v := undef) rfl (by kernel_rfl) (by kernel_rfl) (by kernel_rfl) (fun _ _ _ h => h) (Or.inr ⟨by kernel_rfl, rfl⟩) rfl ?r26n4
                    simp only [Act.put, List.setIfInBounds_toArray, List.set_cons_zero, List.set_cons_succ]
                    refine wpAnyH_take (i := 27) (v := ?_) rfl (by kernel_rfl) (by kernel_rfl) (by kernel_rfl) (fun _ _ _ h => h) (Or.inl ⟨by kernel_rfl, ?y27n4⟩) rfl ?r27n4
                    case y27n4 => (intro wq hSw; go_simp; try rfl)
                    simp only [Act.put, List.setIfInBounds_toArray, List.set_cons_zero, List.set_cons_succ]
                    refine wpAnyH_take (i := 28) (v := ?_) rfl (by kernel_rfl) (by kernel_rfl) (by kernel_rfl) (fun _ _ _ h => h) (Or.inl ⟨by kernel_rfl, ?y28n4⟩) rfl ?r28n4
                    case y28n4 => (intro wq hSw; go_simp; try rfl)
                    simp only [Act.put, List.setIfInBounds_toArray, List.set_cons_zero, List.set_cons_succ]
                    refine wpAnyH_take (i := 29) (v := undef) rfl (by kernel_rfl) (by kernel_rfl) (by kernel_rfl) (fun _ _ _ h => h) (Or.inr ⟨by kernel_rfl, rfl⟩) rfl ?r29n4
                    simp only [Act.put, List.setIfInBounds_toArray, List.set_cons_zero, List.set_cons_succ]
                    refine wpAnyH_take (i := 30) (v := undef) rfl (by kernel_rfl) (by kernel_rfl) (by kernel_rfl) (fun _ _ _ h => h) (Or.inr ⟨by kernel_rfl, rfl⟩) rfl ?r30n4
                    simp only [Act.put, List.setIfInBounds_toArray, List.set_cons_zero, List.set_cons_succ]
                    refine wpAnyH_take (i := 31) (v := undef) rfl (by kernel_rfl) (by kernel_rfl) (by kernel_rfl) (fun _ _ _ h => h) (Or.inr ⟨by kernel_rfl, rfl⟩) rfl ?r31n4
                    simp only [Act.put, List.setIfInBounds_toArray, List.set_cons_zero, List.set_cons_succ]
                    refine wpAnyH_ready (rs := [32]) (by kernel_rfl) (by simp) ?_
                    refine AllReadyH.cons rfl (fun K hK => ?_) AllReadyH.nil
                    go_simp
                    refine hK.out _ _ rfl (fun _ => ?_)
                    clear hK K
                    refine wpAnyH_ready (rs := [33]) (by kernel_rfl) (by simp) ?_
                    refine AllReadyH.cons rfl (fun K hK => ?_) AllReadyH.nil
                    go_simp
                    refine hK.out _ _ rfl (fun _ => ?_)
                    clear hK K
                    refine wpAnyH_done (by kernel_rfl) ?_ _
                    go_wp2_with fail
                    go_roundg g'
                    case measure => omega
                    case rel => exact ⟨i + 1, _, s.a, s.n, s.c, rfl, rfl, by simp, by omega, HB2.out, H3.out⟩
                · have f1 : decide (yln ≤ 16384) = false := decide_eq_false p1
                  have HB2 := hid_of (HV.out false (by unfold varD; simp only [hpl, f0, f1, Bool.and_false, Bool.false_and]))
                  clear HV
                  go_wp2_with (go_at_call 37; refine (PL.out _ _).mono ?_; rintro e w2 ⟨rfl, hw⟩; rw [hw, hpl]; clear hw)
                  go_region
                  all_goals
                    go_wp2_with fail
                    go_roundg g'
                    case measure => omega
                    case rel => exact ⟨i + 1, false, s.a, s.n, s.c, rfl, rfl, by simp, by omega, HB2.out, H3.out⟩
              · have f0 : decide (0 ≤ yln) = false := decide_eq_false p0
                have HB2 := hid_of (HV.out false (by unfold varD; simp only [hpl, f0, Bool.and_false, Bool.false_and]))
                clear HV
                go_wp2_with (go_at_call 37; refine (PL.out _ _).mono ?_; rintro e w2 ⟨rfl, hw⟩; rw [hw, hpl]; clear hw)
                go_region
                all_goals
                  go_wp2_with fail
                  go_roundg g'
                  case measure => omega
                  case rel => exact ⟨i + 1, false, s.a, s.n, s.c, rfl, rfl, by simp, by omega, HB2.out, H3.out⟩
        · have d4 : decide ((i : Int) < (c.vs.n : Int)) = false := decide_eq_false (by omega)
          have HB1' : Hid (b = (Cs.all conD && Vs0.all varD)) := hid_of (by rw [HB.out, List.take_of_length_le (by rw [← ev.out]; omega)])
          have HS1' : Hid (SD w wr c (.slice va vn vc) (Cs.map (·.nm) ++ Vs0.map (·.nm))) := hid_of (by have := HS.out; rw [List.take_of_length_le (by rw [← ev.out]; omega)] at this; exact this)
          clear HB HS EV HB1 HS1 D0
          go_wp2
          go_loopg [3, 4, 9] c.ps.n (fun gf t3 t4 t9 wx => ∃ (i : Nat) (b : Bool) (va : Option Addr) (vn vc : Nat), t3 = .bool b ∧ t4 = .slice va vn vc ∧ t9 = .int .i64 (i : Int) ∧ i + gf = c.ps.n ∧ Hid (b = (Cs.all conD && Vs0.all varD && (l.take i).all (fun q => prcD q.1))) ∧ Hid (SD w wx c (.slice va vn vc) (Cs.map (·.nm) ++ (Vs0.map (·.nm) ++ (l.take i).map (·.1.nm)))))
          case atStart => exact ⟨0, b, va, vn, vc, rfl, rfl, rfl, by omega, hid_of (by rw [HB1'.out]; simp), hid_of (by simpa using HS1'.out)⟩
          case round =>
            obtain ⟨i, b, va, vn, vc, rfl, rfl, rfl, hi, HB, HS⟩ := hrel
            have q1 : wr.cell? ⟨w.heap.size, 3, none⟩ = some (.slice c.ps.a c.ps.n c.ps.c) := HS.out.bx.cell 3
            by_cases hlt : i < c.ps.n
            · obtain ⟨g', rfl⟩ : ∃ g', gk = g' + 1 := ⟨gk - 1, by omega⟩
              have d4 : decide ((i : Int) < (c.ps.n : Int)) = true := decide_eq_true (by omega)
              have j0 : (0 : Int) ≤ (i : Int) := by omega
              have j1 : (i : Int) < (c.ps.n : Int) := by omega
              have hil : i < l.length := by rw [← ep.out]; exact hlt
              obtain ⟨gb, off, ha, hx⟩ := EP.out i hil
              have hlen : (Cs.map (·.nm) ++ (Vs0.map (·.nm) ++ (l.take i).map (·.1.nm))).length ≤ 1000 := by
                have := HL.out
                simp only [List.length_append, List.length_map, List.length_take]
                omega
              have HM := map_take (·.1.nm) l i hil
              have CN : Hid (Calls Tryd.prog 39 #[.agg (pEnc l[i])] wr fun e Y => e = .returned (.bool (prcD l[i].1)) ∧ Y.cell? ⟨w.heap.size, 3, none⟩ = some (.slice c.ps.a c.ps.n c.ps.c) ∧ Y.cell? ⟨gb, off + i * 3, none⟩ = some (.string l[i].1.nm) ∧ ∃ (s : Sl) (Z : World), (appN #[46, 46] 46 #[.slice va vn vc, .slice (some ⟨Y.heap.size, 0, none⟩) 1 1]).run Tryd.prog (Y.alloc (.cells #[.string l[i].1.nm] 9)) = .ok (.slice s.a s.n s.c) Z ∧ Hid (SD w Z c (.slice s.a s.n s.c) (Cs.map (·.nm) ++ (Vs0.map (·.nm) ++ (l.take (i + 1)).map (·.1.nm))))) := hid_of ((PR.out wr HS.out.be i hil).mono fun e Y hh => by
                have hS := HS.out.below hh.2
                obtain ⟨s, Z, z1, z2⟩ := hS.app hlen l[i].1.nm
                exact ⟨hh.1, hS.bx.cell 3, (hx Y hS.be).2, s, Z, z1, by have h := z2.out.1; rw [HM]; rw [List.append_assoc, List.append_assoc] at h; exact h⟩)
              have AP : ∃ (s : Sl) (Z : World), (appN #[46, 46] 46 #[.slice va vn vc, .slice (some ⟨wr.heap.size, 0, none⟩) 1 1]).run Tryd.prog (wr.alloc (.cells #[.string l[i].1.nm] 9)) = .ok (.slice s.a s.n s.c) Z ∧ Hid (SD w Z c (.slice s.a s.n s.c) (Cs.map (·.nm) ++ (Vs0.map (·.nm) ++ (l.take (i + 1)).map (·.1.nm)))) := by
                obtain ⟨s, Z, z1, z2⟩ := HS.out.app hlen l[i].1.nm
                exact ⟨s, Z, z1, by have h := z2.out.1; rw [HM]; rw [List.append_assoc, List.append_assoc] at h; exact h⟩
              have HT := hid_of (all_take (fun q : Pc × Sl => prcD q.1) l i hil)
              obtain ⟨k0, k4⟩ := hx wr HS.out.be
              generalize l[i] = y at CN AP HT k0 k4
              rw [ha] at q1 CN
              clear hx hil HS ha hlen HM HB1' HS1'
              cases b
              · obtain ⟨s, Z, z1, HZ⟩ := AP
                have HB2 : Hid (false = (Cs.all conD && Vs0.all varD && (l.take (i + 1)).all (fun q => prcD q.1))) := hid_of (by rw [HT.out, ← Bool.and_assoc, ← HB.out, Bool.false_and])
                clear CN HT HB k0
                go_wp2
                go_roundg g'
                case measure => omega
                case rel => exact ⟨i + 1, false, s.a, s.n, s.c, rfl, rfl, by simp, by omega, HB2.out, HZ.out⟩
              · have HB2 : Hid (prcD y.1 = (Cs.all conD && Vs0.all varD && (l.take (i + 1)).all (fun q => prcD q.1))) := hid_of (by rw [HT.out, ← Bool.and_assoc, ← HB.out, Bool.true_and])
                clear AP HT HB k4
                generalize pEnc y = ce at k0 CN
                go_wp2_with (go_at_call 39; refine CN.out.mono ?_; rintro e w2 ⟨rfl, q2, q3, s, Z, z1, HZ⟩)
                go_roundg g'
                case measure => omega
                case rel => exact ⟨i + 1, prcD y.1, s.a, s.n, s.c, rfl, rfl, by simp, by omega, HB2.out, HZ.out⟩
            · have d4 : decide ((i : Int) < (c.ps.n : Int)) = false := decide_eq_false (by omega)
              have HB2 : Hid (b = (Cs.all conD && Vs0.all varD && l.all (fun q => prcD q.1))) := hid_of (by rw [HB.out, List.take_of_length_le (by rw [← ep.out]; omega)])
              have HS2 : Hid (SD w wr c (.slice va vn vc) (Cs.map (·.nm) ++ (Vs0.map (·.nm) ++ l.map (·.1.nm)))) := hid_of (by have := HS.out; rw [List.take_of_length_le (by rw [← ep.out]; omega)] at this; exact this)
              have NC := hid_of (NA.out wr _ HS2.out)
              clear HB HS EP HB1' HS1' NA
              cases b
              · go_wp2
                go_ret
                exact ⟨ret_bool (by rw [← HB2.out, Bool.false_and]), HS2.out.be⟩
              · go_wp2_with (go_at_call 40; refine NC.out.mono ?_; rintro e w9 ⟨rfl, hb9⟩)
                go_ret
                exact ⟨ret_bool (by rw [← HB2.out, Bool.true_and]), HS2.out.be.trans (hb9.mono HS2.out.be.size)⟩
theorem rright_any (w : World) (c : Sc) (o : Sy) (l : List (Pc × Sl)) (hr : SyR w c o l) : Calls Tryd.prog 16 #[.agg c.cells] w fun e w' => e = .returned (.bool (rightP o)) ∧ Below w.heap.size w w' := by
  have hd : rightP o = rightD o := right_doc o hr.sz.2.1 hr.sz.2.2.1 (fun x hx => by
    rw [← hr.pl] at hx
    obtain ⟨z, hz, rfl⟩ := List.mem_map.1 hx
    exact hr.sz.2.2.2 z hz)
  cases hh : (nameB o.nm && (decide (o.cs.length ≤ 200) && decide (o.vs.length ≤ 200) && decide (o.ps.length ≤ 100)))
  · have e : rightP o = false := by rw [hd]; unfold rightD; rw [hh, Bool.false_and]
    rw [e]
    exact rright_no w c o l hr hh
  · have e : rightP o = (o.cs.all conD && o.vs.all varD && o.ps.all prcD && namesB (namesO o)) := by rw [hd]; unfold rightD; rw [hh, Bool.true_and]
    rw [e]
    simp only [Bool.and_eq_true, decide_eq_true_eq] at hh
    exact rright_yes w c o l hr hh.1 hh.2.1.1 hh.2.1.2 hh.2.2
end Go.Proofs.YtcppgpcgbggdcaaDoor
