/-
  A trap with a vector, as plain data.
  The law on a trap with a vector.
-/
import Derived.Test.YteegkhnikcioiaaGreatDoorMMShown
import Derived.Test.YteegkhnikcioiaaGreatDoorMMemLaw
import Derived.Deep.DeepCutAuto
namespace Go.Proofs.YteegkhnikcioiaaGreatDoor
open Cpu (Cp In Ac En decOk decI accA rightB)
set_option linter.unusedVariables false
set_option linter.unusedSimpArgs false

theorem gotV_four {M : Nat → Int} {A v : Int} (h : Four M A v) (hw : isW A = true) (v0 : 0 ≤ v) (v1 : v ≤ 4294967295) : gotV M A = v := by
  unfold gotV
  rw [if_pos hw]
  have e : wordAt M A = tgv 256 (fun j => byteOf v j) 4 := by
    unfold wordAt
    simp only [tgv, h 0 (by omega), h 1 (by omega), h 2 (by omega), h 3 (by omega)]
  rw [e, word_back v v0 v1]
theorem four_init (f : Nat → Int) (len k : Nat) (hk : k < len) : Four (initM f len) ((4 * k : Nat) : Int) (f k) := fun j hj => by
  unfold initM
  rw [show (((4 * k : Nat) : Int).toNat + j) / 4 = k by omega, if_pos hk, show (((4 * k : Nat) : Int).toNat + j) % 4 = j by omega]
def vecF (n v : Int) (q : Nat) (i : Nat) : Int := if i = 4 then v else if i = q then 1074724864 + n else 0
def trapI (n : Int) : In := { F := 1, U := false, V := false, A := 0, B := 0, O := 15, C := 0, N := n }
theorem dec_trap (n : Int) (n0 : 0 ≤ n) (n1 : n ≤ 65535) : Cpu.unpackI (1074724864 + n) = trapI n := by
  have f30 : Cpu.fldI (1074724864 + n) 30 2 = 1 := by simp [Cpu.fldI]; omega
  have f29 : Cpu.fldI (1074724864 + n) 29 1 = 0 := by simp [Cpu.fldI]; omega
  have f28 : Cpu.fldI (1074724864 + n) 28 1 = 0 := by simp [Cpu.fldI]; omega
  have f24 : Cpu.fldI (1074724864 + n) 24 4 = 0 := by simp [Cpu.fldI]; omega
  have f20 : Cpu.fldI (1074724864 + n) 20 4 = 0 := by simp [Cpu.fldI]; omega
  have f16 : Cpu.fldI (1074724864 + n) 16 4 = 15 := by simp [Cpu.fldI]; omega
  have f0 : Cpu.fldI (1074724864 + n) 0 16 = n := by simp [Cpu.fldI]; omega
  simp [Cpu.unpackI, trapI, f30, f29, f28, f24, f20, f16, f0]
theorem right_trap (n : Int) (n0 : 0 ≤ n) (n1 : n ≤ 65535) : rightB (trapI n) = true := by
  have hr : Cpu.ropB (trapI n) = true := by kernel_rfl
  have hn : n < 65536 := by omega
  unfold rightB
  rw [hr]
  simp [trapI, Cpu.regB, n0, hn]
theorem pack_trap (n : Int) : Cpu.packV (trapI n) = 1074724864 + n := by
  simp [Cpu.packV, Cpu.hiV, trapI, Cpu.bit]
  omega
theorem decOk_trap (n : Int) (n0 : 0 ≤ n) (n1 : n ≤ 65535) : decOk (1074724864 + n) = true ∧ decI (1074724864 + n) = trapI n := by
  have h : decOk (1074724864 + n) = true := by
    unfold decOk
    rw [dec_trap n n0 n1, right_trap n n0 n1, pack_trap n]; simp
  refine ⟨h, ?_⟩
  unfold decI
  rw [if_pos h, dec_trap n n0 n1]
theorem trap_T (c : Cp) (n : Int) (n0 : 0 ≤ n) (n1 : n ≤ 65535) : c.execT (trapI n) = true ∧ c.execN (trapI n) = n := by
  have h : c.execT (trapI n) = true := by
    unfold Cpu.Cp.execT
    rw [right_trap n n0 n1]
    simp [trapI, Cpu.Cp.trapsB]
  refine ⟨h, ?_⟩
  unfold Cpu.Cp.execN
  rw [if_pos h]; simp [trapI]
theorem acc_trap (c : Cp) (n : Int) : accA c (trapI n) = { K := 0, D := 0, V := 0 } := by
  unfold accA
  rw [if_neg (by simp [trapI])]
theorem vec_run (n v : Int) (q : Nat) (D : Dk) (n0 : 1 ≤ n) (n1 : n ≤ 65535) (q0 : 16 ≤ q) (q1 : q ≤ 1000) (v0 : 0 < v) (v1 : v ≤ 4294967295) : ∃ m1, (Ms.new (vecF n v q) 1010 D ((4 * q : Nat) : Int)).run 1 = (enAt 1 0, m1) ∧ m1.st = 1 ∧ m1.c.PC = v ∧ gotV m1.L.M 20 = n ∧ gotV m1.L.M 24 = ((4 * q : Nat) : Int) := by
  have hW : isW ((4 * q : Nat) : Int) = true := by unfold isW; exact decide_eq_true (by omega)
  generalize hm : Ms.new (vecF n v q) 1010 D ((4 * q : Nat) : Int) = m
  have hpc : m.c.PC = ((4 * q : Nat) : Int) := by rw [← hm]; rfl
  have hM : m.L.M = initM (vecF n v q) 1010 := by rw [← hm]; rfl
  have hst : m.st = 0 := by rw [← hm]; rfl
  have hcut : m.cut = -1 := by rw [← hm]; rfl
  have hw : m.word = 1074724864 + n := by
    unfold Ms.word
    rw [hpc, hM, gotV_four (four_init (vecF n v q) 1010 q (by omega)) hW] <;> unfold vecF <;> rw [if_neg (by omega), if_pos rfl] <;> omega
  have hd := decOk_trap n (by omega) n1
  rw [← hw] at hd
  have hT := trap_T m.c n (by omega) n1
  have hdid : m.did = ((0, 0), m.L) := by
    unfold Ms.did Ms.asks
    rw [hd.2, acc_trap]; rfl
  have hv : gotV m.L.M 16 = v := by
    rw [hM, show (16 : Int) = ((4 * 4 : Nat) : Int) by rfl, gotV_four (four_init (vecF n v q) 1010 4 (by omega)) (by decide)] <;> unfold vecF <;> rw [if_pos rfl] <;> omega
  have hc : m.counted = { m with st := 1 } := by
    unfold Ms.counted; rw [hdid, hst]; rfl
  have hstep : m.step = ((m.asks, enAt 0 0), { m with st := 1, L := { m.L with M := pokeM (pokeM m.L.M 20 (n % 4294967296)) 24 m.c.PC }, c := { m.c with PC := v } }) := by
    unfold Ms.step
    rw [hpc, if_pos hW, if_pos hd.1, if_neg (by rw [hdid]; show ¬ (0 : Int) = 1; decide), if_neg (by rw [hdid]; show ¬ (0 : Int) = 2; decide), hd.2, if_pos hT.1, hT.2, hc]
    unfold Ms.trapped
    rw [if_neg (by omega), if_neg (by show ¬ gotV m.L.M 16 = 0; rw [hv]; omega)]
    show (_, _) = _
    simp only [hv, hpc]
  have hg : ∀ k : Ms, k.cut = -1 → k.gone = false := fun k hk => by unfold Ms.gone; rw [hk]; rfl
  refine ⟨m.step.2, ?_, ?_, ?_, ?_, ?_⟩
  · have h1 : m.step.1.2.k = 0 := by rw [hstep]; rfl
    have h2 : m.step.2.gone = false := hg _ (by rw [hstep]; exact hcut)
    simp only [Ms.run, hg m hcut, h1, h2]
    simp
  · rw [hstep]
  · rw [hstep]
  · rw [hstep]
    show gotV (pokeM (pokeM m.L.M 20 (n % 4294967296)) 24 m.c.PC) 20 = n
    rw [show n % 4294967296 = n by omega]
    exact gotV_four ((four_poke m.L.M 20 n (by decide)).poke (by decide) (by decide) (by decide) (by decide)) (by decide) (by omega) (by omega)
  · rw [hstep]
    show gotV (pokeM (pokeM m.L.M 20 (n % 4294967296)) 24 m.c.PC) 24 = _
    rw [hpc]
    exact gotV_four (four_poke _ 24 _ (by decide)) (by decide) (by omega) (by omega)
end Go.Proofs.YteegkhnikcioiaaGreatDoor

namespace Go.Proofs.YteegkhnikcioiaaGreatDoor
open Go.ChangeShapes Go.WideShapes Go.ChangeAt Go.RowKit
open Cpu (Cp In Ac En decOk decI accA rightB)
attribute [local go_sem ↓] Cpu.loadCpu_seal Cpu.storeCpu_seal Cpu.loadIn_seal Cpu.storeIn_seal Cpu.loadAc_seal Cpu.storeAc_seal Cpu.loadEn_seal Cpu.storeEn_seal
attribute [local go_sem] Cpu.loadCpu_run Cpu.storeCpu_run Cpu.loadIn_run Cpu.storeIn_run Cpu.rowAt_at Cpu.rowAt_past Cpu.rowAt_drew Cpu.rowAt_drewN Cpu.roomCpu_new Cpu.roomIn_new Cpu.roomAt_old Cpu.roomAt_drew Cpu.roomAt_drewN Cpu.putCpu_new Cpu.putIn_new Cpu.Cp.zero_fold Cpu.In.fold Cpu.putRow_past Cpu.rowCpu_put Cpu.rowIn_put Cpu.size_put Cpu.putRow_drew Cpu.putRow_drewN Cpu.alloc_drewN Cpu.setCell_drewN Cpu.Cp.at16 Cpu.Cp.at17 Cpu.Cp.at18 Cpu.Cp.at19 Cpu.Cp.at20 Cpu.Cp.at21 Cpu.Cp.size Cpu.Cp.set16 Cpu.Cp.set17 Cpu.Cp.set18 Cpu.Cp.set19 Cpu.Cp.set20 Cpu.Cp.set21 Cpu.In.at0 Cpu.In.at1 Cpu.In.at2 Cpu.In.at3 Cpu.In.at4 Cpu.In.at5 Cpu.In.at6 Cpu.In.at7 Cpu.In.size Cpu.In.set0 Cpu.In.set1 Cpu.In.set2 Cpu.In.set3 Cpu.In.ne Cpu.Cp.ne Cpu.In.set4 Cpu.In.set5 Cpu.In.set6 Cpu.In.set7 loadMid_run storeMid_run mc_size mc_cpu Cpu.loadAc_run Cpu.storeAc_run Cpu.loadEn_run Cpu.storeEn_run Cpu.putAc_new Cpu.putEn_new Cpu.roomAc_new Cpu.roomEn_new Cpu.rowAc_put Cpu.rowEn_put Cpu.Ac.at0 Cpu.Ac.at1 Cpu.Ac.at2 Cpu.Ac.size Cpu.Ac.ne Cpu.Ac.fold Cpu.En.at0 Cpu.En.at1 Cpu.En.at2 Cpu.En.at3 Cpu.En.size Cpu.En.set0 Cpu.En.set1 Cpu.En.set2 Cpu.En.set3 Cpu.Ac.set0 Cpu.Ac.set1 Cpu.Ac.set2 Cpu.En.ne Cpu.En.fold
set_option linter.unusedVariables false

/-- A row of words. -/
structure URow (w : World) (g n : Nat) (f : Nat → Int) : Prop where
  row : ∃ cur : Array Value, w.heap[g]? = some (.cells cur 23 (0, 0)) ∧ cur.size = n ∧ ∀ i, i < n → cur[i]? = some (.int .u32 (f i))
theorem URow.at {w : World} {g n k : Nat} {f : Nat → Int} (h : URow w g n f) (hk : k < n) : w.cell? ⟨g, k, none⟩ = some (.int .u32 (f k)) ∧ w.frozen? ⟨g, k, none⟩ = false := by
  obtain ⟨cur, hg, hs, hc⟩ := h.row
  refine ⟨?_, by simp [World.frozen?, hg]⟩
  rw [cell_of_row w g k cur _ (0, 0) hg, hc k hk]
theorem URow.lt {w : World} {g n : Nat} {f : Nat → Int} (h : URow w g n f) : g < w.heap.size := by
  obtain ⟨cur, hg, _, _⟩ := h.row
  exact (Array.getElem?_eq_some_iff.1 hg).1
theorem URow.same {w w' : World} {g n : Nat} {f : Nat → Int} (h : URow w g n f) (hw : w'.heap[g]? = w.heap[g]?) : URow w' g n f := by
  obtain ⟨cur, hg, r⟩ := h.row
  exact ⟨cur, hw.trans hg, r⟩
theorem URow.set {w : World} {g n k : Nat} {f : Nat → Int} (h : URow w g n f) (hk : k < n) (v : Int) : URow (w.setCell ⟨g, k, none⟩ (.int .u32 v)) g n (upd f k v) := by
  obtain ⟨cur, hg, hs, hc⟩ := h.row
  refine ⟨cur.setIfInBounds k (.int .u32 v), Go.Joins.block_setCell (i := k) hg _, by simpa using hs, fun i hi => ?_⟩
  by_cases e : i = k
  · subst e; rw [upd_at]; simp [hs, hk]
  · rw [upd_ne _ _ e, Array.getElem?_setIfInBounds_ne (Ne.symm e)]; exact hc i hi
theorem URow.ext {w : World} {g n : Nat} {f h : Nat → Int} (hr : URow w g n f) (e : ∀ i, i < n → f i = h i) : URow w g n h := by
  obtain ⟨cur, hg, hs, hc⟩ := hr.row
  exact ⟨cur, hg, hs, fun i hi => by rw [hc i hi, e i hi]⟩
theorem URow.rd {w : World} {g n : Nat} {f : Nat → Int} (h : URow w g n f) (hn : n ≤ maxLen) (hf : ∀ i, i < n → 0 ≤ f i ∧ f i ≤ 4294967295) : RdW w (some ⟨g, 0, none⟩) n f :=
  ⟨hn, .inr ⟨g, 0, rfl, fun i hi => ⟨by rw [Nat.zero_add]; exact (h.at hi).1, hf i hi⟩⟩⟩
theorem URow.made {w : World} {base g n : Nat} (h : w.ownsRow base 23 1 (.slice (some ⟨g, 0, none⟩) n n) n (madeCells (Value.int .u32 0).cells (n * 1)).toList) : URow w g n (fun _ => 0) := by
  rcases h.2 with ⟨h0, _⟩ | ⟨g', cap, cur, hv, _, hg, _, _, hs, ht⟩
  · simp at h0
  · simp at hv
    obtain ⟨rfl, rfl⟩ := hv
    have e : cur = (List.replicate n (.int .u32 0)).toArray := by
      rw [List.take_of_length_le (by simp; omega)] at ht
      apply Array.ext'
      rw [ht, Nat.mul_one]
      simpa [Value.cells] using toList_madeCells_one (.int .u32 0) n
    exact ⟨cur, hg, by omega, fun i hi => by rw [e]; simp [hi]⟩
theorem infoU : (Tryz.prog.info? 23).map (fun i => (i.zero, i.size, i.bytes)) = some (some (.int .u32 0), 1, 4) := by kernel_rfl
theorem run_vec {X : World} {p b : Nat} {P : Ph} (n v : Int) (q : Nat) (D : Dk) (h : Mac X p b P (Ms.new (vecF n v q) 1010 D ((4 * q : Nat) : Int))) (n0 : 1 ≤ n) (n1 : n ≤ 65535) (q0 : 16 ≤ q) (q1 : q ≤ 1000) (v0 : 0 < v) (v1 : v ≤ 4294967295) : Calls Tryz.prog 15 #[.pointer (some ⟨p, 0, none⟩), .int .i64 1] X fun e Y => ∃ E : En, ∃ P' m', E.k = 1 ∧ E.s = 1 ∧ m'.c.PC = v ∧ gotV m'.L.M 20 = n ∧ gotV m'.L.M 24 = ((4 * q : Nat) : Int) ∧ e = .returned (.agg E.cells) ∧ MStp X p b P Y P' m' := by
  obtain ⟨m1, hr, hs, hp, h20, h24⟩ := vec_run n v q D n0 n1 q0 q1 v0 v1
  refine (run_any h 1 ⟨by decide, by decide⟩ (by show (0 : Int) ≤ _; decide)).mono fun e Y ⟨he, P', hS⟩ => ?_
  have e1 : steps 1 = 1 := by kernel_rfl
  unfold Ms.tells at he
  rw [e1, hr] at he hS
  exact ⟨_, P', m1, rfl, by show m1.st - 0 = 1; rw [hs]; rfl, hp, h20, h24, he, hS⟩
/-- What the law asks first. -/
def vecB (n a v : Int) : Bool := decide (1 ≤ n ∧ n ≤ 65535 ∧ 64 ≤ a ∧ a ≤ 4000 ∧ a % 4 = 0 ∧ v ≠ 0)
set_option maxHeartbeats 1000000 in
set_option maxRecDepth 20000 in
theorem vec_good (n v : Int) (q : Nat) (w : World) (hW : Cpu.Ways w) (n0 : 1 ≤ n) (n1 : n ≤ 65535) (q0 : 16 ≤ q) (q1 : q ≤ 1000) (v0 : 0 < v) (v1 : v ≤ 4294967295) : Calls Tryz.prog 6 #[.int .i64 n, .int .i64 ((4 * q : Nat) : Int), .int .u32 v] w fun e w' => e = .returned (.bool true) ∧ Below w.heap.size w w' := by
  obtain ⟨i0, hi, hz0, hz1, hz2⟩ := info_parts infoU
  have HW : Hid (Cpu.Ways w) := hW
  have d4 : ((4 * q : Nat) : Int) % 4 = 0 := by omega
  have a0 : 64 ≤ ((4 * q : Nat) : Int) := by omega
  have a1 : ((4 * q : Nat) : Int) ≤ 4000 := by omega
  have hq4 : ((4 * q : Nat) : Int) / 4 = (q : Int) := by omega
  have t4 : ((4 * q : Nat) : Int).tmod 4 = 0 := by rw [Int.tmod_eq_emod_of_nonneg (by omega)]; exact d4
  have t5 : ((4 * q : Nat) : Int).tdiv 4 = (q : Int) := by rw [Int.tdiv_eq_ediv_of_nonneg (by omega)]; exact hq4
  generalize hA : ((4 * q : Nat) : Int) = A at *
  clear hW
  go_enter Tryz.func6, Tryz.ntmps6
  have q2 : (0 : Int) ≤ (q : Int) := by omega
  have q3 : (q : Int) < 1010 := by omega
  have nw : (1074724864 + n) % 4294967296 = 1074724864 + n := by omega
  have n2 : n % 4294967296 = n := by omega
  have A2 : A % 4294967296 = A := by omega
  have hvz : (v == 0) = false := by simp; omega
  go_upto_region 7 with (first
    | (go_at_call 9; refine (mshown_any _ HW.out).mono ?_; rintro e w1 ⟨rfl, b1⟩; have H1 : Hid (Below w.heap.size w w1) := b1; clear b1)
    | (at_make; refine wpList_make_full _ rfl _ _ 22 rfl w1.heap.size 23 i0 (.int .u32 0) 1 Tryz.underlying22 hi hz0 hz1 .i64 .i64 _ _ 1010 rfl rfl rfl rfl (by rw [hz2]; decide) (by decide) (Nat.le_refl _) ?_; intro w2 hown2 hgrow2; have HU : Hid (URow w2 w1.heap.size 1010 (fun _ => 0) ∧ Below w1.heap.size w1 w2) := ⟨URow.made hown2, (Below.refl _ w1).grown hgrow2 (Nat.le_refl _) (fun k hk => by cases hk)⟩; have cq := (HU.out.1.at (k := q) (by omega)).1; have fq := (HU.out.1.at (k := q) (by omega)).2; have c4 : ∀ x, (w2.setCell ⟨w1.heap.size, q, none⟩ (.int .u32 x)).cell? ⟨w1.heap.size, 4, none⟩ = some (.int .u32 0) := (fun x => by have := ((HU.out.1.set (k := q) (by omega) x).at (k := 4) (by omega)).1; rwa [upd_ne _ _ (by omega)] at this); have f4 : ∀ x, (w2.setCell ⟨w1.heap.size, q, none⟩ (.int .u32 x)).frozen? ⟨w1.heap.size, 4, none⟩ = false := (fun x => ((HU.out.1.set (k := q) (by omega) x).at (k := 4) (by omega)).2); clear hown2 hgrow2))
  have HX : Hid (URow ((w2.setCell ⟨w1.heap.size, q, none⟩ (.int .u32 (1074724864 + n))).setCell ⟨w1.heap.size, 4, none⟩ (.int .u32 v)) w1.heap.size 1010 (vecF n v q) ∧ Below w.heap.size w ((w2.setCell ⟨w1.heap.size, q, none⟩ (.int .u32 (1074724864 + n))).setCell ⟨w1.heap.size, 4, none⟩ (.int .u32 v))) :=
    ⟨((HU.out.1.set (k := q) (by omega) _).set (k := 4) (by omega) v).ext (fun i _ => by simp [upd, vecF]), (((H1.out.trans (HU.out.2.mono H1.out.size)).setCell (by simpa using H1.out.size) _).setCell (by simpa using H1.out.size) _)⟩
  clear HU cq fq c4 f4
  generalize (w2.setCell ⟨w1.heap.size, q, none⟩ (.int .u32 (1074724864 + n))).setCell ⟨w1.heap.size, 4, none⟩ (.int .u32 v) = X at HX ⊢
  have HA : Hid (A = ((4 * q : Nat) : Int)) := hA.symm
  clear hA
  go_wp2_with (first
    | (go_at_call 22; refine (new_some 8 _ (by omega) (by omega)).mono ?_; rintro e w3 ⟨db, D, rfl, hR, hn, hm, hS, hF, hfr, hb1⟩; have HR : Hid (Rep w3 db D ∧ D.fresh db w.heap.size ∧ Below w.heap.size w w3 ∧ RdW w3 (some ⟨w1.heap.size, 0, none⟩) 1010 (vecF n v q)) := ⟨hR, fun x hx => Nat.le_trans HX.out.2.size (hfr x hx), HX.out.2.trans (hb1.mono HX.out.2.size), ((HX.out.1.same (hb1.block _ HX.out.1.lt)).rd (by decide) (fun i _ => by unfold vecF; split <;> (try split) <;> omega))⟩; clear hR hn hm hS hF hfr hb1)
    | (go_at_call 23; refine (mnew_ok _ 1010 _ db (vecF n v q) D A _ (HW.out.below HR.out.2.2.1 HW.out.big) HR.out.1 (fun x hx => Nat.lt_of_lt_of_le HW.out.big (HR.out.2.1 x hx)) (by decide) HR.out.2.2.2 (by omega) (by omega) (decide_eq_true (by omega))).mono ?_; rintro e w4 ⟨p, b, P, rfl, hM, hdb, hD, hall, hb2⟩; have HM : Hid (MOwn w p b P (Ms.new (vecF n v q) 1010 D ((4 * q : Nat) : Int)) w4) := (by have e := HA.out; subst e; exact MOwn.begin HR.out.2.1 HR.out.2.2.1 (Below.refl _ _) hM hall hb2); clear hM hdb hD hall hb2)
    | (go_at_call 15; refine (run_vec n v q D HM.out.mac n0 n1 q0 q1 v0 v1).mono ?_; rintro e w5 ⟨E, P3, m3, k3, s3, p3, g20, g24, rfl, hS⟩; have H5 : Hid (MOwn w p b P3 m3 w5) := HM.out.step hS; rw [← HA.out] at g24; clear hS)
    | (go_at_call 16; refine (mcpu_any (H5.out.next (al _)).mac).mono ?_; rintro e w6 ⟨rfl, hb⟩; have H6 : Hid (MOwn w p b P3 m3 w6 ∧ Cpu.rowAt w6 w5.heap.size = some E.cells ∧ w5.heap.size < w6.heap.size) := ⟨(H5.out.next (al _)).next hb, (rowAt_same (hb.block _ (by simp))).trans (Cpu.rowAt_at _ _ _ _ _ rfl), (by have := hb.size; simp at this; omega)⟩; clear hb)
    | (go_at_call 24; have hx := H7; clear hx; refine (mword_any H7.out.1.mac 24 (by decide) (by decide)).mono ?_; rw [g24]; rintro e w8 ⟨rfl, hb⟩; have H8 : Hid (Below w.heap.size w w8) := (H7.out.1.next hb).below; have c8 : ∀ j, w8.cell? ⟨w5.heap.size, j, none⟩ = E.cells[j]? := Cpu.rowAt_cell ((rowAt_same (hb.block _ H7.out.2.2.1)).trans H7.out.2.1); have d8 : ∀ j, w8.cell? ⟨w6.heap.size, j, none⟩ = m3.c.cells[j]? := Cpu.rowAt_cell ((rowAt_same (hb.block _ H7.out.2.2.2.2)).trans H7.out.2.2.2.1); clear hb)
    | (go_at_call 24; refine (mword_any (H6.out.1.next (al _)).mac 20 (by decide) (by decide)).mono ?_; rw [g20]; rintro e w7 ⟨rfl, hb⟩; have H7 : Hid (MOwn w p b P3 m3 w7 ∧ Cpu.rowAt w7 w5.heap.size = some E.cells ∧ w5.heap.size < w7.heap.size ∧ Cpu.rowAt w7 w6.heap.size = some m3.c.cells ∧ w6.heap.size < w7.heap.size) := ⟨(H6.out.1.next (al _)).next hb, (rowAt_same (hb.block _ (by have := H6.out.2.2; simp; omega))).trans ((Cpu.rowAt_past _ _ _ H6.out.2.2).trans H6.out.2.1), (by have := hb.size; have := H6.out.2.2; simp at *; omega), (rowAt_same (hb.block _ (by simp))).trans (Cpu.rowAt_at _ _ _ _ _ rfl), (by have := hb.size; simp at this; omega)⟩; clear hb))
  go_ret
  exact ⟨by simp, H8.out⟩
set_option maxHeartbeats 1000000 in
theorem vec_bad (n a v : Int) (w : World) (hW : Cpu.Ways w) (v0 : 0 ≤ v) (v1 : v ≤ 4294967295) (hB : ¬ (1 ≤ n ∧ n ≤ 65535 ∧ 64 ≤ a ∧ a ≤ 4000 ∧ a % 4 = 0 ∧ v ≠ 0)) : Calls Tryz.prog 6 #[.int .i64 n, .int .i64 a, .int .u32 v] w fun e w' => e = .returned (.bool true) ∧ Below w.heap.size w w' := by
  have HW : Hid (Cpu.Ways w) := hW
  clear hW
  by_cases h1 : n < 1
  · clear hB
    go_enter Tryz.func6, Tryz.ntmps6
    go_wp2_with (first
      | (go_at_call 9; refine (mshown_any _ HW.out).mono ?_; rintro e w1 ⟨rfl, b1⟩; have H1 : Hid (Below w.heap.size w w1) := b1; clear b1))
    go_ret
    exact ⟨rfl, H1.out⟩
  · by_cases h2 : 65535 < n
    · clear hB
      go_enter Tryz.func6, Tryz.ntmps6
      go_wp2_with (first
        | (go_at_call 9; refine (mshown_any _ HW.out).mono ?_; rintro e w1 ⟨rfl, b1⟩; have H1 : Hid (Below w.heap.size w w1) := b1; clear b1))
      go_ret
      exact ⟨rfl, H1.out⟩
    · by_cases h3 : a < 64
      · clear hB
        go_enter Tryz.func6, Tryz.ntmps6
        go_wp2_with (first
          | (go_at_call 9; refine (mshown_any _ HW.out).mono ?_; rintro e w1 ⟨rfl, b1⟩; have H1 : Hid (Below w.heap.size w w1) := b1; clear b1))
        go_ret
        exact ⟨rfl, H1.out⟩
      · by_cases h4 : 4000 < a
        · clear hB
          go_enter Tryz.func6, Tryz.ntmps6
          go_wp2_with (first
            | (go_at_call 9; refine (mshown_any _ HW.out).mono ?_; rintro e w1 ⟨rfl, b1⟩; have H1 : Hid (Below w.heap.size w w1) := b1; clear b1))
          go_ret
          exact ⟨rfl, H1.out⟩
        · by_cases h5 : a % 4 = 0
          · have hv : v = 0 := by omega
            have t4 : a.tmod 4 = 0 := by rw [Int.tmod_eq_emod_of_nonneg (by omega)]; exact h5
            clear hB
            subst hv
            go_enter Tryz.func6, Tryz.ntmps6
            go_wp2_with (first
              | (go_at_call 9; refine (mshown_any _ HW.out).mono ?_; rintro e w1 ⟨rfl, b1⟩; have H1 : Hid (Below w.heap.size w w1) := b1; clear b1))
            go_ret
            exact ⟨rfl, H1.out⟩
          · have t4 : ¬ a.tmod 4 = 0 := by rw [Int.tmod_eq_emod_of_nonneg (by omega)]; exact h5
            have t5 : (a.tmod 4 == 0) = false := by simpa using t4
            clear hB
            go_enter Tryz.func6, Tryz.ntmps6
            go_wp2_with (first
              | (go_at_call 9; refine (mshown_any _ HW.out).mono ?_; rintro e w1 ⟨rfl, b1⟩; have H1 : Hid (Below w.heap.size w w1) := b1; clear b1))
            go_ret
            exact ⟨rfl, H1.out⟩
theorem vec_any (n a v : Int) (w : World) (hW : Cpu.Ways w) (v0 : 0 ≤ v) (v1 : v ≤ 4294967295) : Calls Tryz.prog 6 #[.int .i64 n, .int .i64 a, .int .u32 v] w fun e w' => e = .returned (.bool true) ∧ Below w.heap.size w w' := by
  by_cases hB : 1 ≤ n ∧ n ≤ 65535 ∧ 64 ≤ a ∧ a ≤ 4000 ∧ a % 4 = 0 ∧ v ≠ 0
  · obtain ⟨n0, n1, a0, a1, a4, hv⟩ := hB
    have := vec_good n v (a / 4).toNat w hW n0 n1 (by omega) (by omega) (by omega) v1
    rwa [show ((4 * (a / 4).toNat : Nat) : Int) = a by omega] at this
  · exact vec_bad n a v w hW v0 v1 hB
end Go.Proofs.YteegkhnikcioiaaGreatDoor
