/-
  Layer 13, the document's side: plain forms, sizes, constants, procedures.
-/
import Derived.Test.YtcppgpcgbggdcaaDoorYdl
namespace Go.Proofs.YtcppgpcgbggdcaaDoor
set_option linter.unusedVariables false
set_option linter.unusedSimpArgs false
open Go.ChangeShapes Go.WideShapes Go.ChangeAt Go.RowKit
attribute [local go_sem ↓] ldC_seal stC_seal ldV_seal stV_seal ldP_seal stP_seal

theorem rPlain_any (x : Int) (w : World) : Calls Tryd.prog 37 #[.int .i64 x] w fun e w' => e = .returned (.bool (plainB x)) ∧ w' = w := by
  unfold plainB
  by_cases p1 : (1 : Int) ≤ x
  · by_cases p2 : x ≤ (5 : Int)
    · go_enter Tryd.func37, Tryd.ntmps37
      go_wp2
      go_ret
      exact ⟨ret_bool (by simp [p1, p2]), rfl⟩
    · go_enter Tryd.func37, Tryd.ntmps37
      go_wp2
      go_ret
      exact ⟨ret_bool (by simp [p1, p2]), rfl⟩
  · go_enter Tryd.func37, Tryd.ntmps37
    go_wp2
    go_ret
    exact ⟨ret_bool (by have p3 : decide (1 ≤ x) = false := decide_eq_false (by omega); rw [p3, Bool.false_and]), rfl⟩
def sizeI (x : Int) : Int := if x = 1 ∨ x = 5 then 4 else 1
theorem rsize_any (x : Int) (w : World) : Calls Tryd.prog 38 #[.int .i64 x] w fun e w' => e = .returned (.int .i64 (sizeI x)) ∧ w' = w := by
  unfold sizeI
  by_cases h1 : x = 1
  · subst h1
    go_enter Tryd.func38, Tryd.ntmps38
    go_wp2
    go_ret
    exact ⟨rfl, rfl⟩
  · have e1 : (x == 1) = false := by simpa using h1
    by_cases h2 : x = 5
    · subst h2
      go_enter Tryd.func38, Tryd.ntmps38
      go_wp2
      go_ret
      exact ⟨rfl, rfl⟩
    · have e2 : (x == 5) = false := by simpa using h2
      go_enter Tryd.func38, Tryd.ntmps38
      go_wp2
      go_ret
      exact ⟨rfl, rfl⟩
/-- May a constant be, but for its name? -/
def conD (c : Cn) : Bool := match valB c.ty with
  | none => false
  | some (lo, hi) => decide (lo ≤ c.n) && (decide (c.n ≤ hi) && (decide ((c.s.size : Int) ≤ (if c.ty = 7 then 200 else 0)) && c.ex))
theorem conD_ex {c : Cn} (h : c.ex = false) : conD c = false := by
  unfold conD
  split
  · rfl
  · rw [h]; simp
theorem conD_s {c : Cn} (h : ¬ (c.s.size : Int) ≤ (if c.ty = 7 then 200 else 0)) : conD c = false := by
  unfold conD
  split
  · rfl
  · rw [decide_eq_false h]; simp
theorem conD_v {c : Cn} {lo hi : Int} (h : valB c.ty = some (lo, hi)) (he : c.ex = true) (hs : (c.s.size : Int) ≤ (if c.ty = 7 then 200 else 0)) : conD c = (decide (lo ≤ c.n) && decide (c.n ≤ hi)) := by
  unfold conD
  rw [h]
  simp only [he, decide_eq_true hs, Bool.and_true]
set_option maxHeartbeats 4000000 in
theorem rconstant_of (nm : ByteArray) (ty n : Int) (s : ByteArray) (ex : Bool) (w : World) : Calls Tryd.prog 36 #[.agg (cEnc ⟨nm, ty, n, s, ex⟩)] w fun e w' => e = .returned (.bool (conD ⟨nm, ty, n, s, ex⟩)) ∧ Below w.heap.size w w' := by
  have b0 := BA.new w 53 (cEnc ⟨nm, ty, n, s, ex⟩)
  have c1 : (w.alloc (.cells (cEnc ⟨nm, ty, n, s, ex⟩) 53)).cell? ⟨w.heap.size, 1, none⟩ = some (.int .i64 ty) := b0.cell 1
  have c2 : (w.alloc (.cells (cEnc ⟨nm, ty, n, s, ex⟩) 53)).cell? ⟨w.heap.size, 2, none⟩ = some (.int .i64 n) := b0.cell 2
  have c3 : (w.alloc (.cells (cEnc ⟨nm, ty, n, s, ex⟩) 53)).cell? ⟨w.heap.size, 3, none⟩ = some (.string s) := b0.cell 3
  have c4 : (w.alloc (.cells (cEnc ⟨nm, ty, n, s, ex⟩) 53)).cell? ⟨w.heap.size, 4, none⟩ = some (.bool ex) := b0.cell 4
  have hb : Hid (Below w.heap.size w (w.alloc (.cells (cEnc ⟨nm, ty, n, s, ex⟩) 53))) := hid_of ((Below.refl _ _).alloc (Nat.le_refl _) _)
  clear b0
  obtain ⟨r, hr⟩ : ∃ r, r = conD ⟨nm, ty, n, s, ex⟩ := ⟨_, rfl⟩
  rw [← hr]
  cases ex
  · have R : Hid (r = false) := hid_of (hr.trans (conD_ex rfl))
    unfold cEnc at *
    dsimp only at *
    go_enter Tryd.func36, Tryd.ntmps36
    go_wp2
    go_ret
    exact ⟨ret_bool R.out.symm, hb.out⟩
  · by_cases h7 : ty = 7
    · have e7 : (ty == 7) = true := by simpa using h7
      have m7 : (ty != 7) = false := by simpa using h7
      have t1 : (ty == 1) = false := by simp; omega
      have t2 : (ty == 2) = false := by simp; omega
      have t3 : (ty == 3) = false := by simp; omega
      have t5 : (ty == 5) = false := by simp; omega
      by_cases hs : (s.size : Int) ≤ 200
      · have d1 : decide ((200 : Int) < (s.size : Int)) = false := decide_eq_false (by omega)
        have hv : valB ty = some (0, 0) := by unfold valB; rw [h7]; rfl
        have R : Hid (r = (n == 0)) := hid_of (by
          rw [hr, conD_v hv rfl (by rw [if_pos h7]; exact hs)]
          by_cases hn : n = 0
          · rw [hn]; rfl
          · have : (n == 0) = false := by simpa using hn
            rw [this]
            by_cases h0 : 0 ≤ n
            · rw [decide_eq_false (show ¬ n ≤ 0 by omega), Bool.and_false]
            · rw [decide_eq_false h0, Bool.false_and])
        unfold cEnc at *
        dsimp only at *
        clear hr h7 hs hv
        cases hn : (n == 0)
        · rw [hn] at R
          go_enter Tryd.func36, Tryd.ntmps36
          go_wp2
          go_ret
          exact ⟨ret_bool R.out.symm, hb.out⟩
        · rw [hn] at R
          go_enter Tryd.func36, Tryd.ntmps36
          go_wp2
          go_ret
          exact ⟨ret_bool R.out.symm, hb.out⟩
      · have d1 : decide ((200 : Int) < (s.size : Int)) = true := decide_eq_true (by omega)
        have R : Hid (r = false) := hid_of (hr.trans <| conD_s (by rw [if_pos h7]; exact hs))
        unfold cEnc at *
        dsimp only at *
        clear hr h7 hs
        go_enter Tryd.func36, Tryd.ntmps36
        go_wp2
        go_ret
        exact ⟨ret_bool R.out.symm, hb.out⟩
    · have e7 : (ty == 7) = false := by simpa using h7
      have m7 : (ty != 7) = true := by simpa using h7
      by_cases hs : (s.size : Int) ≤ 0
      · have z1 : s.toList.isEmpty = true := bytes_empty (by omega)
        have d1 : decide ((200 : Int) < (s.size : Int)) = false := decide_eq_false (by omega)
        by_cases h1 : ty = 1
        · have e1 : (ty == 1) = true := by simpa using h1
          have x2 : (ty == 2) = false := by simp; omega
          have x3 : (ty == 3) = false := by simp; omega
          have x5 : (ty == 5) = false := by simp; omega
          have hv : valB ty = some ((-2147483648), 2147483647) := by unfold valB; rw [h1]; rfl
          have R0 : r = (decide ((-2147483648) ≤ n) && decide (n ≤ 2147483647)) := hr.trans (conD_v hv rfl (by rw [if_neg h7]; exact hs))
          unfold cEnc at *
          dsimp only at *
          clear hr h7 hs hv h1 
          by_cases n0 : (-2147483648) ≤ n
          · by_cases n1 : n ≤ 2147483647
            · have R : Hid (r = true) := hid_of (by rw [R0]; simp [n0, n1])
              have q0 : decide ((-2147483648) ≤ n) = true := decide_eq_true n0
              have q1 : decide (n < 2147483648) = true := decide_eq_true (by omega)
              clear R0
              go_enter Tryd.func36, Tryd.ntmps36
              go_wp2
              go_ret
              exact ⟨ret_bool R.out.symm, hb.out⟩
            · have R : Hid (r = false) := hid_of (by rw [R0]; simp [n1])
              have q0 : decide ((-2147483648) ≤ n) = true := decide_eq_true n0
              have q1 : decide (n < 2147483648) = false := decide_eq_false (by omega)
              clear R0
              go_enter Tryd.func36, Tryd.ntmps36
              go_wp2
              go_ret
              exact ⟨ret_bool R.out.symm, hb.out⟩
          · have R : Hid (r = false) := hid_of (by rw [R0]; simp [n0])
            have q0 : decide ((-2147483648) ≤ n) = false := decide_eq_false n0
            clear R0
            go_enter Tryd.func36, Tryd.ntmps36
            go_wp2
            go_ret
            exact ⟨ret_bool R.out.symm, hb.out⟩
        · have e1 : (ty == 1) = false := by simpa using h1
          by_cases h2 : ty = 2
          · have e2 : (ty == 2) = true := by simpa using h2
            have x1 : (ty == 1) = false := by simp; omega
            have x3 : (ty == 3) = false := by simp; omega
            have x5 : (ty == 5) = false := by simp; omega
            have hv : valB ty = some (0, 1) := by unfold valB; rw [h2]; rfl
            have R0 : r = (decide (0 ≤ n) && decide (n ≤ 1)) := hr.trans (conD_v hv rfl (by rw [if_neg h7]; exact hs))
            unfold cEnc at *
            dsimp only at *
            clear hr h7 hs hv h2 h1
            by_cases n0 : n = 0
            · have R : Hid (r = true) := hid_of (by rw [R0, n0]; rfl)
              have q0 : (n == 0) = true := by simpa using n0
              clear R0 n0
              go_enter Tryd.func36, Tryd.ntmps36
              go_wp2
              go_ret
              exact ⟨ret_bool R.out.symm, hb.out⟩
            · by_cases n1 : n = 1
              · have R : Hid (r = true) := hid_of (by rw [R0, n1]; rfl)
                have q0 : (n == 0) = false := by simpa using n0
                have q1 : (n == 1) = true := by simpa using n1
                clear R0 n0 n1
                go_enter Tryd.func36, Tryd.ntmps36
                go_wp2
                go_ret
                exact ⟨ret_bool R.out.symm, hb.out⟩
              · have R : Hid (r = false) := hid_of (by rw [R0]; simp; omega)
                have q0 : (n == 0) = false := by simpa using n0
                have q1 : (n == 1) = false := by simpa using n1
                clear R0 n0 n1
                go_enter Tryd.func36, Tryd.ntmps36
                go_wp2
                go_ret
                exact ⟨ret_bool R.out.symm, hb.out⟩
          · have e2 : (ty == 2) = false := by simpa using h2
            by_cases h3 : ty = 3
            · have e3 : (ty == 3) = true := by simpa using h3
              have x1 : (ty == 1) = false := by simp; omega
              have x2 : (ty == 2) = false := by simp; omega
              have x5 : (ty == 5) = false := by simp; omega
              have hv : valB ty = some (0, 255) := by unfold valB; rw [h3]; rfl
              have R0 : r = (decide (0 ≤ n) && decide (n ≤ 255)) := hr.trans (conD_v hv rfl (by rw [if_neg h7]; exact hs))
              unfold cEnc at *
              dsimp only at *
              clear hr h7 hs hv h3 h1 h2
              by_cases n0 : 0 ≤ n
              · by_cases n1 : n ≤ 255
                · have R : Hid (r = true) := hid_of (by rw [R0]; simp [n0, n1])
                  have q0 : decide (0 ≤ n) = true := decide_eq_true n0
                  have q1 : decide (n ≤ 255) = true := decide_eq_true n1
                  clear R0
                  go_enter Tryd.func36, Tryd.ntmps36
                  go_wp2
                  go_ret
                  exact ⟨ret_bool R.out.symm, hb.out⟩
                · have R : Hid (r = false) := hid_of (by rw [R0]; simp [n1])
                  have q0 : decide (0 ≤ n) = true := decide_eq_true n0
                  have q1 : decide (n ≤ 255) = false := decide_eq_false n1
                  clear R0
                  go_enter Tryd.func36, Tryd.ntmps36
                  go_wp2
                  go_ret
                  exact ⟨ret_bool R.out.symm, hb.out⟩
              · have R : Hid (r = false) := hid_of (by rw [R0]; simp [n0])
                have q0 : decide (0 ≤ n) = false := decide_eq_false n0
                clear R0
                go_enter Tryd.func36, Tryd.ntmps36
                go_wp2
                go_ret
                exact ⟨ret_bool R.out.symm, hb.out⟩
            · have e3 : (ty == 3) = false := by simpa using h3
              by_cases h5 : ty = 5
              · have e5 : (ty == 5) = true := by simpa using h5
                have x1 : (ty == 1) = false := by simp; omega
                have x2 : (ty == 2) = false := by simp; omega
                have x3 : (ty == 3) = false := by simp; omega
                have hv : valB ty = some (0, 4294967295) := by unfold valB; rw [h5]; rfl
                have R0 : r = (decide (0 ≤ n) && decide (n ≤ 4294967295)) := hr.trans (conD_v hv rfl (by rw [if_neg h7]; exact hs))
                unfold cEnc at *
                dsimp only at *
                clear hr h7 hs hv h5 h1 h2 h3
                by_cases n0 : 0 ≤ n
                · by_cases n1 : n ≤ 4294967295
                  · have R : Hid (r = true) := hid_of (by rw [R0]; simp [n0, n1])
                    have q0 : decide (0 ≤ n) = true := decide_eq_true n0
                    have q1 : decide (n < 4294967296) = true := decide_eq_true (by omega)
                    clear R0
                    go_enter Tryd.func36, Tryd.ntmps36
                    go_wp2
                    go_ret
                    exact ⟨ret_bool R.out.symm, hb.out⟩
                  · have R : Hid (r = false) := hid_of (by rw [R0]; simp [n1])
                    have q0 : decide (0 ≤ n) = true := decide_eq_true n0
                    have q1 : decide (n < 4294967296) = false := decide_eq_false (by omega)
                    clear R0
                    go_enter Tryd.func36, Tryd.ntmps36
                    go_wp2
                    go_ret
                    exact ⟨ret_bool R.out.symm, hb.out⟩
                · have R : Hid (r = false) := hid_of (by rw [R0]; simp [n0])
                  have q0 : decide (0 ≤ n) = false := decide_eq_false n0
                  clear R0
                  go_enter Tryd.func36, Tryd.ntmps36
                  go_wp2
                  go_ret
                  exact ⟨ret_bool R.out.symm, hb.out⟩
              · have e5 : (ty == 5) = false := by simpa using h5
                have hv : valB ty = none := by unfold valB; rw [if_neg h1, if_neg h2, if_neg h3, if_neg h5, if_neg h7]
                have R : Hid (r = false) := hid_of (by rw [hr]; unfold conD; simp only [hv])
                unfold cEnc at *
                dsimp only at *
                clear hr h7 hs hv h1 h2 h3 h5
                go_enter Tryd.func36, Tryd.ntmps36
                go_wp2
                go_ret
                exact ⟨ret_bool R.out.symm, hb.out⟩
      · have z1 : s.toList.isEmpty = false := bytes_some (by omega)
        have R : Hid (r = false) := hid_of (hr.trans <| conD_s (by rw [if_neg h7]; exact hs))
        unfold cEnc at *
        dsimp only at *
        clear hr h7 hs
        go_enter Tryd.func36, Tryd.ntmps36
        go_wp2
        go_ret
        exact ⟨ret_bool R.out.symm, hb.out⟩
theorem rconstant_any (c : Cn) (w : World) : Calls Tryd.prog 36 #[.agg (cEnc c)] w fun e w' => e = .returned (.bool (conD c)) ∧ Below w.heap.size w w' := rconstant_of c.nm c.ty c.n c.s c.ex w
/-- May a procedure be, but for its name? -/
def prcD (p : Pc) : Bool := (decide ((p.ps.length : Int) ≤ 8) && p.ps.all parB) && resB p.rs
end Go.Proofs.YtcppgpcgbggdcaaDoor
