/-
  Layer 13: the law's Same, at two symbols that hold the same.
-/
import Derived.Test.YtcppgpcgbggdcaaDoorYen
namespace Go.Proofs.YtcppgpcgbggdcaaDoor
set_option linter.unusedVariables false
set_option linter.unusedSimpArgs false
open Go.ChangeShapes Go.WideShapes Go.ChangeAt Go.RowKit Go.Shelf
attribute [local go_sem ↓] ldC_seal stC_seal ldV_seal stV_seal ldP_seal stP_seal ldS_seal stS_seal

def neC (x y : Value) : Sem Value := binOp .neq 53 x y
theorem neC_seal (x y : Value) : binOp .neq 53 x y = neC x y := rfl
theorem neC_same (a : Cn) (w : World) : (neC (.agg (cEnc a)) (.agg (cEnc a))).run Tryd.prog w = .ok (.bool false) w := by
  unfold neC cEnc
  simp [go_sem, Tryd.underlying53, Tryd.underlying3, Tryd.underlying9, Tryd.underlying4]
def neV (x y : Value) : Sem Value := binOp .neq 69 x y
theorem neV_seal (x y : Value) : binOp .neq 69 x y = neV x y := rfl
theorem neV_same (a : Vr) (w : World) : (neV (.agg (vEnc a)) (.agg (vEnc a))).run Tryd.prog w = .ok (.bool false) w := by
  unfold neV vEnc
  simp [go_sem, Tryd.underlying69, Tryd.underlying3, Tryd.underlying9, Tryd.underlying4]
attribute [local go_sem ↓] neC_seal neV_seal
/-- Both symbols, each in a box. -/
structure S2 (w X : World) (c d : Sc) : Prop where
  b1 : BA X w.heap.size 26 c.cells
  b2 : BA X (w.heap.size + 1) 26 d.cells
  be : Below w.heap.size w X
theorem S2.below {w X Y : World} {c d : Sc} (h : S2 w X c d) (hb : Below X.heap.size X Y) : S2 w Y c d := ⟨h.b1.below hb, h.b2.below hb, h.be.trans (hb.mono (Nat.le_of_lt h.b1.lt))⟩
theorem S2.drew {w X : World} {c d : Sc} (h : S2 w X c d) : S2 w X.drew c d := h.below (bl_drew X)
theorem S2.start (w : World) (c d : Sc) : S2 w ((w.alloc (.cells c.cells 26)).alloc (.cells d.cells 26)) c d := by
  refine ⟨(BA.new w _ _).below ((Below.refl _ _).alloc (Nat.le_refl _) _), ?_, by go_grown⟩
  have := BA.new (w.alloc (.cells c.cells 26)) 26 d.cells
  rw [show (w.alloc (.cells c.cells 26)).heap.size = w.heap.size + 1 by simp] at this
  exact this
theorem two_con {w X : World} {s t : Sl} {xs : List Cn} (h : RdV w 5 s xs.length (flat cEnc xs)) (g : RdV w 5 t xs.length (flat cEnc xs)) (hb : Below w.heap.size w X) (i : Nat) (hi : i < xs.length) : ∃ b off b2 off2, s.a = some ⟨b, off, none⟩ ∧ t.a = some ⟨b2, off2, none⟩ ∧ (ldT 53 ⟨b, off + i * 5, none⟩).run Tryd.prog X.drew = .ok (.agg (cEnc xs[i])) X.drew ∧ (ldT 53 ⟨b2, off2 + i * 5, none⟩).run Tryd.prog X.drew = .ok (.agg (cEnc xs[i])) X.drew := by
  obtain ⟨b, off, e1, _, e2⟩ := (h.below (hb.trans ((bl_drew X).mono hb.size))).elem (fun _ => rfl) i hi
  obtain ⟨b2, off2, g1, _, g2⟩ := (g.below (hb.trans ((bl_drew X).mono hb.size))).elem (fun _ => rfl) i hi
  exact ⟨b, off, b2, off2, e1, g1, ldT_mid e2 Tryd.underlying53 rfl (by kernel_rfl), ldT_mid g2 Tryd.underlying53 rfl (by kernel_rfl)⟩
theorem two_var {w X : World} {s t : Sl} {xs : List Vr} (h : RdV w 5 s xs.length (flat vEnc xs)) (g : RdV w 5 t xs.length (flat vEnc xs)) (hb : Below w.heap.size w X) (i : Nat) (hi : i < xs.length) : ∃ b off b2 off2, s.a = some ⟨b, off, none⟩ ∧ t.a = some ⟨b2, off2, none⟩ ∧ (ldT 69 ⟨b, off + i * 5, none⟩).run Tryd.prog X.drew = .ok (.agg (vEnc xs[i])) X.drew ∧ (ldT 69 ⟨b2, off2 + i * 5, none⟩).run Tryd.prog X.drew = .ok (.agg (vEnc xs[i])) X.drew := by
  obtain ⟨b, off, e1, _, e2⟩ := (h.below (hb.trans ((bl_drew X).mono hb.size))).elem (fun _ => rfl) i hi
  obtain ⟨b2, off2, g1, _, g2⟩ := (g.below (hb.trans ((bl_drew X).mono hb.size))).elem (fun _ => rfl) i hi
  exact ⟨b, off, b2, off2, e1, g1, ldT_mid e2 Tryd.underlying69 rfl (by kernel_rfl), ldT_mid g2 Tryd.underlying69 rfl (by kernel_rfl)⟩
/-- Two procedures, copied into boxes. -/
theorem two_prc {w X : World} {c d : Sc} {l1 l2 : List (Pc × Sl)} (hS : S2 w X c d) (h : RdV w 3 c.ps l1.length (flat pEnc l1)) (g : RdV w 3 d.ps l2.length (flat pEnc l2)) (i : Nat) (hi : i < l1.length) (hi2 : i < l2.length) : ∃ b off b2 off2 Z1 Z2, c.ps.a = some ⟨b, off, none⟩ ∧ d.ps.a = some ⟨b2, off2, none⟩ ∧ (ldT 63 ⟨b, off + i * 3, none⟩).run Tryd.prog X = .ok (.agg (pEnc l1[i])) X ∧ (stT 63 ⟨X.heap.size, 0, none⟩ (.agg (pEnc l1[i]))).run Tryd.prog (X.alloc (.cells zeroP 63)) = .ok () Z1 ∧ (ldT 63 ⟨b2, off2 + i * 3, none⟩).run Tryd.prog Z1 = .ok (.agg (pEnc l2[i])) Z1 ∧ (stT 63 ⟨Z1.heap.size, 0, none⟩ (.agg (pEnc l2[i]))).run Tryd.prog (Z1.alloc (.cells zeroP 63)) = .ok () Z2 ∧ Z1.cell? ⟨w.heap.size + 1, 3, none⟩ = some (.slice d.ps.a d.ps.n d.ps.c) ∧ Hid (S2 w Z2 c d ∧ BA Z2 X.heap.size 63 (pEnc l1[i]) ∧ BA Z2 Z1.heap.size 63 (pEnc l2[i])) := by
  obtain ⟨b, off, e1, _, e2⟩ := (h.below hS.be).elem (fun _ => rfl) i hi
  obtain ⟨Z1, z1, z2, z3⟩ := stT_run (w := X.alloc (.cells zeroP 63)) (pEnc l1[i]) (BA.new X _ zeroP) rfl (by kernel_rfl) (by simp [pEnc, Value.oneCell'])
  have bZ : Below X.heap.size X Z1 := ((Below.refl _ _).alloc (Nat.le_refl _) _).trans (z3.bel (by simp) (Nat.le_refl _))
  have S1 := hS.below bZ
  obtain ⟨b2, off2, g1, _, g2⟩ := (g.below S1.be).elem (fun _ => rfl) i hi2
  obtain ⟨Z2, y1, y2, y3⟩ := stT_run (w := Z1.alloc (.cells zeroP 63)) (pEnc l2[i]) (BA.new Z1 _ zeroP) rfl (by kernel_rfl) (by simp [pEnc, Value.oneCell'])
  have bY : Below Z1.heap.size Z1 Z2 := ((Below.refl _ _).alloc (Nat.le_refl _) _).trans (y3.bel (by simp) (Nat.le_refl _))
  exact ⟨b, off, b2, off2, Z1, Z2, e1, g1, ldT_mid e2 Tryd.underlying63 rfl (by kernel_rfl), z1, ldT_mid g2 Tryd.underlying63 rfl (by kernel_rfl), y1, S1.b2.cell 3, hid_of ⟨S1.below bY, z2.below bY, y2⟩⟩
set_option maxHeartbeats 16000000 in
set_option maxRecDepth 20000 in
theorem same_eq (w : World) (c d : Sc) (o : Sy) (l1 l2 : List (Pc × Sl)) (h : SyR w c o l1) (g : SyR w d o l2) : Calls Tryd.prog 15 #[.agg c.cells, .agg d.cells] w fun e w' => e = .returned (.bool true) ∧ Below w.heap.size w w' := by
  have n12 : l1.length = l2.length := by have := congrArg List.length (h.pl.trans g.pl.symm); simpa using this
  have h12 : ∀ i (hi : i < l1.length) (hi2 : i < l2.length), l1[i].1 = l2[i].1 := fun i hi hi2 => by
    have e1 : (l1.map (·.1))[i]? = (l2.map (·.1))[i]? := by rw [h.pl, g.pl]
    rw [List.getElem?_map, List.getElem?_map, List.getElem?_eq_getElem hi, List.getElem?_eq_getElem hi2] at e1
    simpa using e1
  have Ecs : Hid (∀ i (hi : i < o.cs.length) X, Below w.heap.size w X → ∃ b off b2 off2, c.cs.a = some ⟨b, off, none⟩ ∧ d.cs.a = some ⟨b2, off2, none⟩ ∧ (ldT 53 ⟨b, off + i * 5, none⟩).run Tryd.prog X.drew = .ok (.agg (cEnc o.cs[i])) X.drew ∧ (ldT 53 ⟨b2, off2 + i * 5, none⟩).run Tryd.prog X.drew = .ok (.agg (cEnc o.cs[i])) X.drew) := hid_of fun i hi X hX => two_con h.cs g.cs hX i hi
  have Evs : Hid (∀ i (hi : i < o.vs.length) X, Below w.heap.size w X → ∃ b off b2 off2, c.vs.a = some ⟨b, off, none⟩ ∧ d.vs.a = some ⟨b2, off2, none⟩ ∧ (ldT 69 ⟨b, off + i * 5, none⟩).run Tryd.prog X.drew = .ok (.agg (vEnc o.vs[i])) X.drew ∧ (ldT 69 ⟨b2, off2 + i * 5, none⟩).run Tryd.prog X.drew = .ok (.agg (vEnc o.vs[i])) X.drew) := hid_of fun i hi X hX => two_var h.vs g.vs hX i hi
  have EP : Hid (∀ i (hi : i < c.ps.n) X, S2 w X c d → ∃ (x1 : Pc × Sl) (x2 : Pc × Sl) (b off b2 off2 : Nat) (Z1 Z2 : World), c.ps.a = some ⟨b, off, none⟩ ∧ d.ps.a = some ⟨b2, off2, none⟩ ∧ (ldT 63 ⟨b, off + i * 3, none⟩).run Tryd.prog X = .ok (.agg (pEnc x1)) X ∧ (stT 63 ⟨X.heap.size, 0, none⟩ (.agg (pEnc x1))).run Tryd.prog (X.alloc (.cells zeroP 63)) = .ok () Z1 ∧ (ldT 63 ⟨b2, off2 + i * 3, none⟩).run Tryd.prog Z1 = .ok (.agg (pEnc x2)) Z1 ∧ (stT 63 ⟨Z1.heap.size, 0, none⟩ (.agg (pEnc x2))).run Tryd.prog (Z1.alloc (.cells zeroP 63)) = .ok () Z2 ∧ Z1.cell? ⟨w.heap.size + 1, 3, none⟩ = some (.slice d.ps.a d.ps.n d.ps.c) ∧ x1.1 = x2.1 ∧ Hid (RdV w 5 x1.2 x1.1.ps.length (flat vEnc x1.1.ps)) ∧ Hid (RdV w 5 x2.2 x1.1.ps.length (flat vEnc x1.1.ps)) ∧ Hid (S2 w Z2 c d ∧ BA Z2 X.heap.size 63 (pEnc x1) ∧ BA Z2 Z1.heap.size 63 (pEnc x2))) := hid_of fun i hi X hX => by
    rw [h.ps.len] at hi
    obtain ⟨b, off, b2, off2, Z1, Z2, r⟩ := two_prc hX h.ps g.ps i hi (by omega)
    have e := h12 i hi (by omega)
    exact ⟨l1[i], l2[i], b, off, b2, off2, Z1, Z2, r.1, r.2.1, r.2.2.1, r.2.2.2.1, r.2.2.2.2.1, r.2.2.2.2.2.1, r.2.2.2.2.2.2.1, e, h.pp _ (List.getElem_mem hi), by rw [e]; exact g.pp _ (List.getElem_mem _), r.2.2.2.2.2.2.2⟩
  have Lcs : Hid (c.cs.n = o.cs.length ∧ d.cs.n = o.cs.length ∧ c.cs.n ≤ 140737488355328) := ⟨h.cs.len, g.cs.len, by rw [h.cs.len]; exact h.cs.most⟩
  have Lvs : Hid (c.vs.n = o.vs.length ∧ d.vs.n = o.vs.length ∧ c.vs.n ≤ 140737488355328) := ⟨h.vs.len, g.vs.len, by rw [h.vs.len]; exact h.vs.most⟩
  have Lps : Hid (c.ps.n = l1.length ∧ d.ps.n = l1.length ∧ c.ps.n ≤ 140737488355328) := ⟨h.ps.len, by rw [g.ps.len, n12], by rw [h.ps.len]; exact h.ps.most⟩
  have mcs : c.cs.n ≤ 140737488355328 := Lcs.out.2.2
  have ncs : ((c.cs.n : Int) != (d.cs.n : Int)) = false := by have := Lcs.out; simp; omega
  have mvs : c.vs.n ≤ 140737488355328 := Lvs.out.2.2
  have nvs : ((c.vs.n : Int) != (d.vs.n : Int)) = false := by have := Lvs.out; simp; omega
  have mps : c.ps.n ≤ 140737488355328 := Lps.out.2.2
  have nps : ((c.ps.n : Int) != (d.ps.n : Int)) = false := by have := Lps.out; simp; omega
  have nnm : c.nm = d.nm := by rw [h.nm, g.nm]
  have y1 : (d.nm.toList == d.nm.toList) = true := by simp
  obtain ⟨W, hW⟩ : ∃ W, W = (w.alloc (.cells c.cells 26)).alloc (.cells d.cells 26) := ⟨_, rfl⟩
  have S0 : Hid (S2 w W c d) := by rw [hW]; exact S2.start w c d
  have u0 : W.cell? ⟨w.heap.size, 0, none⟩ = some (.string d.nm) := by rw [← nnm]; exact S0.out.b1.cell 0
  have u1 : W.cell? ⟨w.heap.size, 1, none⟩ = some (.slice c.cs.a c.cs.n c.cs.c) := S0.out.b1.cell 1
  have u2 : W.cell? ⟨w.heap.size, 2, none⟩ = some (.slice c.vs.a c.vs.n c.vs.c) := S0.out.b1.cell 2
  have u3 : W.cell? ⟨w.heap.size, 3, none⟩ = some (.slice c.ps.a c.ps.n c.ps.c) := S0.out.b1.cell 3
  have v0 : W.cell? ⟨w.heap.size + 1, 0, none⟩ = some (.string d.nm) := S0.out.b2.cell 0
  have v1 : W.cell? ⟨w.heap.size + 1, 1, none⟩ = some (.slice d.cs.a d.cs.n d.cs.c) := S0.out.b2.cell 1
  have v2 : W.cell? ⟨w.heap.size + 1, 2, none⟩ = some (.slice d.vs.a d.vs.n d.vs.c) := S0.out.b2.cell 2
  have v3 : W.cell? ⟨w.heap.size + 1, 3, none⟩ = some (.slice d.ps.a d.ps.n d.ps.c) := S0.out.b2.cell 3
  clear h g n12 h12 nnm
  go_enter Tryd.func15, Tryd.ntmps15
  go_wp2_with (rw [← hW]; clear hW)
  go_loopg [5] c.cs.n (fun gf t5 wx => ∃ i : Nat, t5 = .int .i64 (i : Int) ∧ i + gf = c.cs.n ∧ Hid (S2 w wx c d))
  case atStart => exact ⟨0, rfl, by omega, S0.out⟩
  case round =>
    obtain ⟨i, rfl, hi, HS⟩ := hrel
    have q1 : wr.cell? ⟨w.heap.size, 1, none⟩ = some (.slice c.cs.a c.cs.n c.cs.c) := HS.out.b1.cell 1
    have q2 : wr.cell? ⟨w.heap.size + 1, 1, none⟩ = some (.slice d.cs.a d.cs.n d.cs.c) := HS.out.b2.cell 1
    by_cases hlt : i < c.cs.n
    · obtain ⟨g', rfl⟩ : ∃ g', gk = g' + 1 := ⟨gk - 1, by omega⟩
      have d1 : decide ((i : Int) < (c.cs.n : Int)) = true := decide_eq_true (by omega)
      have j0 : (0 : Int) ≤ (i : Int) := by omega
      have j1 : (i : Int) < (c.cs.n : Int) := by omega
      have j2 : (i : Int) < (d.cs.n : Int) := by have := Lcs.out; omega
      have j3 : i < d.cs.n := by have := Lcs.out; omega
      have hil : i < o.cs.length := by have := Lcs.out; omega
      obtain ⟨b, off, b2, off2, ha, ha2, k0, k1⟩ := Ecs.out i hil wr HS.out.be
      rw [ha] at q1
      rw [ha2] at q2
      generalize o.cs[i] = y at k0 k1
      have e1 : (neC (.agg (cEnc y)) (.agg (cEnc y))).run Tryd.prog wr.drew = .ok (.bool false) wr.drew := neC_same y _
      generalize cEnc y = yy at k0 k1 e1
      go_wp2
      go_region
      all_goals
        go_wp2
        go_roundg g'
        case measure => omega
        case rel => exact ⟨i + 1, by simp, by omega, HS.out.drew⟩
    · have d1 : decide ((i : Int) < (c.cs.n : Int)) = false := decide_eq_false (by omega)
      have z5 := HS
      go_wp2
      go_loopg [6] c.vs.n (fun gf t5 wx => ∃ i : Nat, t5 = .int .i64 (i : Int) ∧ i + gf = c.vs.n ∧ Hid (S2 w wx c d))
      case atStart => exact ⟨0, rfl, by omega, z5.out⟩
      case round =>
        obtain ⟨i, rfl, hi, HS⟩ := hrel
        have q1 : wr.cell? ⟨w.heap.size, 2, none⟩ = some (.slice c.vs.a c.vs.n c.vs.c) := HS.out.b1.cell 2
        have q2 : wr.cell? ⟨w.heap.size + 1, 2, none⟩ = some (.slice d.vs.a d.vs.n d.vs.c) := HS.out.b2.cell 2
        by_cases hlt : i < c.vs.n
        · obtain ⟨g', rfl⟩ : ∃ g', gk = g' + 1 := ⟨gk - 1, by omega⟩
          have d1 : decide ((i : Int) < (c.vs.n : Int)) = true := decide_eq_true (by omega)
          have j0 : (0 : Int) ≤ (i : Int) := by omega
          have j1 : (i : Int) < (c.vs.n : Int) := by omega
          have j2 : (i : Int) < (d.vs.n : Int) := by have := Lvs.out; omega
          have j3 : i < d.vs.n := by have := Lvs.out; omega
          have hil : i < o.vs.length := by have := Lvs.out; omega
          obtain ⟨b, off, b2, off2, ha, ha2, k0, k1⟩ := Evs.out i hil wr HS.out.be
          rw [ha] at q1
          rw [ha2] at q2
          generalize o.vs[i] = y at k0 k1
          have e1 : (neV (.agg (vEnc y)) (.agg (vEnc y))).run Tryd.prog wr.drew = .ok (.bool false) wr.drew := neV_same y _
          generalize vEnc y = yy at k0 k1 e1
          go_wp2
          go_region
          all_goals
            go_wp2
            go_roundg g'
            case measure => omega
            case rel => exact ⟨i + 1, by simp, by omega, HS.out.drew⟩
        · have d1 : decide ((i : Int) < (c.vs.n : Int)) = false := decide_eq_false (by omega)
          have z6 := HS
          go_wp2
          go_loopg [7, 8, 9, 10] c.ps.n (fun gf t7 t8 t9 t10 wx => ∃ i : Nat, t7 = .int .i64 (i : Int) ∧ i + gf = c.ps.n ∧ Hid (S2 w wx c d))
          case atStart => exact ⟨0, rfl, by omega, z6.out⟩
          case round =>
            obtain ⟨i, rfl, hi, HS⟩ := hrel
            have q1 : wr.cell? ⟨w.heap.size, 3, none⟩ = some (.slice c.ps.a c.ps.n c.ps.c) := HS.out.b1.cell 3
            have q2 : wr.cell? ⟨w.heap.size + 1, 3, none⟩ = some (.slice d.ps.a d.ps.n d.ps.c) := HS.out.b2.cell 3
            by_cases hlt : i < c.ps.n
            · obtain ⟨g', rfl⟩ : ∃ g', gk = g' + 1 := ⟨gk - 1, by omega⟩
              have d1 : decide ((i : Int) < (c.ps.n : Int)) = true := decide_eq_true (by omega)
              have j0 : (0 : Int) ≤ (i : Int) := by omega
              have j1 : (i : Int) < (c.ps.n : Int) := by omega
              have j2 : (i : Int) < (d.ps.n : Int) := by have := Lps.out; omega
              have j3 : i < d.ps.n := by have := Lps.out; omega
              obtain ⟨wo, rfl⟩ : ∃ wo, wo = wr := ⟨_, rfl⟩
              obtain ⟨x1, x2, b, off, b2, off2, Z1, Z2, ha, ha2, k0, k1, k2, k3, k4, e0, P1, P2, HZ⟩ := EP.out i hlt wo HS.out
              rw [ha] at q1
              rw [ha2] at k4
              have m1 : x1.2.n ≤ 140737488355328 := by rw [P1.out.len]; exact P1.out.most
              have LP : Hid (x1.2.n = x1.1.ps.length ∧ x2.2.n = x1.1.ps.length) := hid_of ⟨P1.out.len, P2.out.len⟩
              have u0 : Z2.cell? ⟨wo.heap.size, 0, none⟩ = some (.string x1.1.nm) := HZ.out.2.1.cell 0
              have u1 : Z2.cell? ⟨wo.heap.size, 1, none⟩ = some (.slice x1.2.a x1.2.n x1.2.c) := HZ.out.2.1.cell 1
              have u2 : Z2.cell? ⟨wo.heap.size, 2, none⟩ = some (.int .i64 x1.1.rs) := HZ.out.2.1.cell 2
              have v0 : Z2.cell? ⟨Z1.heap.size, 0, none⟩ = some (.string x1.1.nm) := by rw [e0]; exact HZ.out.2.2.cell 0
              have v1 : Z2.cell? ⟨Z1.heap.size, 1, none⟩ = some (.slice x2.2.a x2.2.n x2.2.c) := HZ.out.2.2.cell 1
              have v2 : Z2.cell? ⟨Z1.heap.size, 2, none⟩ = some (.int .i64 x1.1.rs) := by rw [e0]; exact HZ.out.2.2.cell 2
              have y1 : (x1.1.nm.toList == x1.1.nm.toList) = true := by simp
              have y2 : (x1.1.rs != x1.1.rs) = false := by simp
              have y3 : ((x1.2.n : Int) != (x2.2.n : Int)) = false := by have := LP.out; simp; omega
              have EV2 : Hid (∀ k (hk : k < x1.2.n) X, Below w.heap.size w X → ∃ (y : Vr) (b off b2 off2 : Nat), x1.2.a = some ⟨b, off, none⟩ ∧ x2.2.a = some ⟨b2, off2, none⟩ ∧ (ldT 69 ⟨b, off + k * 5, none⟩).run Tryd.prog X.drew = .ok (.agg (vEnc y)) X.drew ∧ (ldT 69 ⟨b2, off2 + k * 5, none⟩).run Tryd.prog X.drew = .ok (.agg (vEnc y)) X.drew) := hid_of fun k hk X hX => ⟨_, two_var P1.out P2.out hX k (by rw [← P1.out.len]; exact hk)⟩
              generalize hE1 : pEnc x1 = pe1 at k0 k1
              generalize hE2 : pEnc x2 = pe2 at k2 k3
              have HE1 := hid_of hE1
              have HE2 := hid_of hE2
              clear hE1 hE2 e0 q2
              unfold zeroP at k1 k3
              go_wp2
              go_loopg [10] x1.2.n (fun gf t10 wx => ∃ k : Nat, t10 = .int .i64 (k : Int) ∧ k + gf = x1.2.n ∧ Hid (S2 w wx c d ∧ BA wx wo.heap.size 63 (pEnc x1) ∧ BA wx Z1.heap.size 63 (pEnc x2)))
              case atStart => exact ⟨0, rfl, by omega, HZ.out⟩
              case round =>
                obtain ⟨k, rfl, hk, HK⟩ := hrel
                have s1 : wr.cell? ⟨wo.heap.size, 1, none⟩ = some (.slice x1.2.a x1.2.n x1.2.c) := HK.out.2.1.cell 1
                have s2 : wr.cell? ⟨Z1.heap.size, 1, none⟩ = some (.slice x2.2.a x2.2.n x2.2.c) := HK.out.2.2.cell 1
                by_cases hlk : k < x1.2.n
                · obtain ⟨g2, rfl⟩ : ∃ g2, gk = g2 + 1 := ⟨gk - 1, by omega⟩
                  have f1 : decide ((k : Int) < (x1.2.n : Int)) = true := decide_eq_true (by omega)
                  have f2 : (0 : Int) ≤ (k : Int) := by omega
                  have f3 : (k : Int) < (x1.2.n : Int) := by omega
                  have f4 : (k : Int) < (x2.2.n : Int) := by have := LP.out; omega
                  have f5 : k < x2.2.n := by have := LP.out; omega
                  obtain ⟨y, b5, off5, b6, off6, hb5, hb6, k5, k6⟩ := EV2.out k hlk wr HK.out.1.be
                  rw [hb5] at s1
                  rw [hb6] at s2
                  have e1 : (neV (.agg (vEnc y)) (.agg (vEnc y))).run Tryd.prog wr.drew = .ok (.bool false) wr.drew := neV_same y _
                  generalize vEnc y = yy at k5 k6 e1
                  go_wp2
                  go_region
                  all_goals
                    go_wp2
                    go_roundg g2
                    case measure => omega
                    case rel => exact ⟨k + 1, by simp, by omega, HK.out.1.drew, HK.out.2.1, HK.out.2.2⟩
                · have f1 : decide ((k : Int) < (x1.2.n : Int)) = false := decide_eq_false (by omega)
                  go_wp2
                  go_roundg g'
                  case measure => omega
                  case rel => exact ⟨i + 1, by simp, by omega, HK.out.1⟩
            · have d1 : decide ((i : Int) < (c.ps.n : Int)) = false := decide_eq_false (by omega)
              go_wp2
              go_ret
              exact ⟨rfl, HS.out.be⟩
end Go.Proofs.YtcppgpcgbggdcaaDoor
