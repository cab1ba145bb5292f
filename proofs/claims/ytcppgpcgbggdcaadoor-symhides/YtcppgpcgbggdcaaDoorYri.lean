/-
  Layer 13: rows that are read; whether names, parameters and constants may be.
-/
import Derived.Test.YtcppgpcgbggdcaaDoorYsy
namespace Go.Proofs.YtcppgpcgbggdcaaDoor
set_option linter.unusedVariables false
set_option linter.unusedSimpArgs false
open Go.ChangeShapes Go.WideShapes Go.ChangeAt Go.RowKit
attribute [local go_sem ↓] ldC_seal stC_seal ldV_seal stV_seal ldP_seal stP_seal

/-- A row that is read: its length, and what stands at each place. -/
structure RdV (X : World) (k : Nat) (s : Sl) (n : Nat) (cs : List Value) : Prop where
  len : s.n = n
  all : cs.length = n * k
  most : n ≤ 140737488355328
  at_ : n = 0 ∨ ∃ g off, s.a = some ⟨g, off, none⟩ ∧ g < X.heap.size ∧ ∀ j u, cs[j]? = some u → X.cell? ⟨g, off + j, none⟩ = some u
theorem RdV.below {X Y : World} {k n : Nat} {s : Sl} {cs : List Value} (h : RdV X k s n cs) (hb : Below X.heap.size X Y) : RdV Y k s n cs :=
  ⟨h.len, h.all, h.most, h.at_.imp id fun ⟨g, off, h1, h2, h3⟩ => ⟨g, off, h1, Nat.lt_of_lt_of_le h2 hb.size, fun j u hu => (hb.cell (p := ⟨g, off + j, none⟩) h2).trans (h3 j u hu)⟩⟩
theorem RdV.tq {X Y : World} {P : Nat → Prop} {k n : Nat} {s : Sl} {cs : List Value} (h : RdV X k s n cs) (t : Tq X Y P) (hp : ∀ ad, s.a = some ad → ¬ P ad.block) : RdV Y k s n cs :=
  ⟨h.len, h.all, h.most, h.at_.imp id fun ⟨g, off, h1, h2, h3⟩ => ⟨g, off, h1, Nat.lt_of_lt_of_le h2 t.size, fun j u hu => (World.cell?_of_block (a := ⟨g, off + j, none⟩) (t.blk g h2 (hp _ h1))).trans (h3 j u hu)⟩⟩
theorem flat_at {α : Type} (enc : α → Array Value) (k : Nat) (he : ∀ x, (enc x).size = k) : ∀ (l : List α) (j : Nat) (hj : j < l.length) (m : Nat), m < k → (flat enc l)[j * k + m]? = (enc l[j])[m]?
  | x :: r, 0, hj, m, hm => by
    have : flat enc (x :: r) = (enc x).toList ++ flat enc r := rfl
    rw [this, Nat.zero_mul, Nat.zero_add, List.getElem?_append_left (by rw [Array.length_toList, he]; exact hm)]
    simp
  | x :: r, j + 1, hj, m, hm => by
    have : flat enc (x :: r) = (enc x).toList ++ flat enc r := rfl
    rw [this, List.getElem?_append_right (by rw [Array.length_toList, he, Nat.succ_mul]; omega)]
    rw [show (j + 1) * k + m - (enc x).toList.length = j * k + m by rw [Array.length_toList, he, Nat.succ_mul]; omega]
    exact flat_at enc k he r j (by simpa using hj) m hm
theorem own_rdv {X : World} {B n k : Nat} {e : TypeId} {s : Sl} {xs : List Value} (h : X.ownsRow B e k (.slice s.a s.n s.c) n xs) (hn : n ≤ 140737488355328) : RdV X k s n xs := by
  refine ⟨?_, h.1, hn, ?_⟩
  · rcases h.2 with ⟨hv, h0⟩ | ⟨g, cap, cur, hv, _⟩
    · injection hv with _ h1 _; rw [h1, h0]
    · injection hv
  · rcases h.2 with ⟨_, h0⟩ | ⟨g, cap, cur, hv, hb, hg, h1, h2, h3, h4⟩
    · exact .inl h0
    · injection hv with ha _ _
      refine .inr ⟨g, 0, ha, (Array.getElem?_eq_some_iff.1 hg).1, fun j u hu => ?_⟩
      have hc := World.ownsRow.cells h (g := g) (by simp [Value.ownBlock, ha]) j u hu
      rw [show (0 + j) = j by omega]
      rwa [show (⟨g, 0, none⟩ : Addr).add j = ⟨g, j, none⟩ by (simp [Addr.add]; omega)] at hc
def letB (c : Int) : Bool := decide (97 ≤ c) && decide (c ≤ 122) || decide (65 ≤ c) && decide (c ≤ 90)
def digB (c : Int) : Bool := decide (48 ≤ c) && decide (c ≤ 57)
theorem isLetter_any (c : Int) (w : World) : Calls Tryd.prog 49 #[.int .u8 c] w fun e w' => e = .returned (.bool (letB c)) ∧ w' = w := by
  unfold letB
  cases h1 : decide (97 ≤ c) <;> cases h2 : decide (c ≤ 122) <;> cases h3 : decide (65 ≤ c) <;> cases h4 : decide (c ≤ 90)
  all_goals
    go_enter Tryd.func49, Tryd.ntmps49
    go_wp2
    go_ret
    exact ⟨rfl, rfl⟩
theorem isDigit_any (c : Int) (w : World) : Calls Tryd.prog 50 #[.int .u8 c] w fun e w' => e = .returned (.bool (digB c)) ∧ w' = w := by
  unfold digB
  cases h1 : decide (48 ≤ c) <;> cases h2 : decide (c ≤ 57)
  all_goals
    go_enter Tryd.func50, Tryd.ntmps50
    go_wp2
    go_ret
    exact ⟨rfl, rfl⟩
def u8I (c : UInt8) : Int := (c.toNat : Int)
def restB (l : List UInt8) : Bool := l.all fun c => letB (u8I c) || digB (u8I c)
def nameB (s : ByteArray) : Bool := decide (0 < s.size) && decide (s.size ≤ 20) && letB (u8I (s.data.toList.headD 0)) && restB s.data.toList
theorem byte_at (s : ByteArray) (i : Nat) (h : i < s.size) : s.data.toList.drop i = s[i] :: s.data.toList.drop (i + 1) := by
  have h2 : i < s.data.toList.length := by rw [Array.length_toList]; exact h
  rw [List.drop_eq_getElem_cons h2]
  simp [ByteArray.getElem_eq_getElem_data]
set_option maxHeartbeats 2000000 in
theorem isName_any (s : ByteArray) (w : World) (hs : s.size ≤ 140737488355328) : Calls Tryd.prog 21 #[.string s] w fun e w' => e = .returned (.bool (nameB s)) ∧ w' = w := by
  have L : Hid (∀ c X, Calls Tryd.prog 49 #[.int .u8 c] X fun e w' => e = .returned (.bool (letB c)) ∧ w' = X) := fun c X => isLetter_any c X
  have D : Hid (∀ c X, Calls Tryd.prog 50 #[.int .u8 c] X fun e w' => e = .returned (.bool (digB c)) ∧ w' = X) := fun c X => isDigit_any c X
  by_cases h0 : 0 < s.size
  · have e0 : decide ((s.size : Int) < 1) = false := decide_eq_false (by omega)
    by_cases h1 : s.size ≤ 20
    · have e1 : decide ((20 : Int) < (s.size : Int)) = false := decide_eq_false (by omega)
      have i0 : (0 : Int) < (s.size : Int) := by omega
      have hb := byte_at s 0 h0
      rw [List.drop_zero] at hb
      have hN : nameB s = (letB (u8I s[0]) && restB s.data.toList) := by
        unfold nameB
        rw [decide_eq_true h0, decide_eq_true h1]
        conv => lhs; rw [hb]
        conv => rhs; rw [hb]
        simp
      rw [hN]
      clear hN hb
      cases hl : letB (u8I s[0])
      · have hl2 : letB ((s[0]).toNat : Int) = false := hl
        simp only [Bool.false_and]
        go_enter Tryd.func21, Tryd.ntmps21
        go_wp2_with (go_at_call 49; refine (L.out _ _).mono ?_; rintro e w1 ⟨rfl, hw⟩; rw [hw, hl2]; clear hw)
        go_ret
        exact ⟨rfl, rfl⟩
      · have hl2 : letB ((s[0]).toNat : Int) = true := hl
        simp only [Bool.true_and]
        go_enter Tryd.func21, Tryd.ntmps21
        go_wp2_with (go_at_call 49; refine (L.out _ _).mono ?_; rintro e w1 ⟨rfl, hw⟩; rw [hw, hl2]; clear hw)
        go_loopg [3, 20] s.size (fun gf s3 s20 wx => ∃ i : Nat, s20 = .int .i64 (i : Int) ∧ i + gf = s.size ∧ wx = w ∧ Hid (restB s.data.toList = restB (s.data.toList.drop i)))
        case atStart => exact ⟨0, rfl, by omega, rfl, rfl⟩
        case round =>
          obtain ⟨i, rfl, hi, hww, HR⟩ := hrel
          obtain rfl := hww.symm
          by_cases hlt : i < s.size
          · obtain ⟨g', rfl⟩ : ∃ g', gk = g' + 1 := ⟨gk - 1, by omega⟩
            have d1 : decide ((i : Int) < (s.size : Int)) = true := decide_eq_true (by omega)
            have j0 : (0 : Int) ≤ (i : Int) := by omega
            have j1 : (i : Int) < (s.size : Int) := by omega
            have hr := HR.out
            rw [byte_at s i hlt] at hr
            simp only [restB, List.all_cons] at hr
            cases hA : letB (u8I s[i]) <;> cases hD : digB (u8I s[i])
            · have hA2 : letB ((s[i]).toNat : Int) = false := hA
              have hD2 : digB ((s[i]).toNat : Int) = false := hD
              have HF : Hid (restB s.data.toList = false) := hid_of (by rw [hA, hD] at hr; simpa [restB] using hr)
              clear hr HR
              go_wp2_with (first | (go_at_call 49; refine (L.out _ _).mono ?_; rintro e w1 ⟨rfl, hw⟩; rw [hw, hA2]; clear hw) | (go_at_call 50; refine (D.out _ _).mono ?_; rintro e w1 ⟨rfl, hw⟩; rw [hw, hD2]; clear hw))
              go_ret
              exact ⟨ret_bool HF.out.symm, rfl⟩
            all_goals
              have HF : Hid (restB s.data.toList = restB (s.data.toList.drop (i + 1))) := hid_of (by rw [hA, hD] at hr; simpa [restB] using hr)
              clear hr HR
            · have hA2 : letB ((s[i]).toNat : Int) = false := hA
              have hD2 : digB ((s[i]).toNat : Int) = true := hD
              go_wp2_with (first | (go_at_call 49; refine (L.out _ _).mono ?_; rintro e w1 ⟨rfl, hw⟩; rw [hw, hA2]; clear hw) | (go_at_call 50; refine (D.out _ _).mono ?_; rintro e w1 ⟨rfl, hw⟩; rw [hw, hD2]; clear hw))
              go_roundg g'
              case measure => omega
              case rel => exact ⟨i + 1, by simp, by omega, rfl, HF.out⟩
            all_goals
              have hA2 : letB ((s[i]).toNat : Int) = true := hA
              go_wp2_with (go_at_call 49; refine (L.out _ _).mono ?_; rintro e w1 ⟨rfl, hw⟩; rw [hw, hA2]; clear hw)
              go_roundg g'
              case measure => omega
              case rel => exact ⟨i + 1, by simp, by omega, rfl, HF.out⟩
          · have d1 : decide ((i : Int) < (s.size : Int)) = false := decide_eq_false (by omega)
            have HF : Hid (restB s.data.toList = true) := by
              have := HR.out
              rw [List.drop_of_length_le (by rw [Array.length_toList]; exact Nat.le_of_not_lt hlt)] at this
              exact this
            clear HR
            go_wp2
            go_ret
            exact ⟨ret_bool HF.out.symm, rfl⟩
    · have e1 : decide ((20 : Int) < (s.size : Int)) = true := decide_eq_true (by omega)
      have hN : nameB s = false := by unfold nameB; rw [decide_eq_false h1]; simp
      rw [hN]
      go_enter Tryd.func21, Tryd.ntmps21
      go_wp2
      go_ret
      exact ⟨rfl, rfl⟩
  · have e0 : decide ((s.size : Int) < 1) = true := decide_eq_true (by omega)
    have hN : nameB s = false := by unfold nameB; rw [decide_eq_false h0]; simp
    rw [hN]
    go_enter Tryd.func21, Tryd.ntmps21
    go_wp2
    go_ret
    exact ⟨rfl, rfl⟩
/-- May it be a parameter? -/
def parB (x : Vr) : Bool := plainB x.fm && (decide (x.ln = 0) && x.nm.toList.isEmpty)
set_option maxHeartbeats 2000000 in
theorem isParam_any (x : Vr) (w : World) : Calls Tryd.prog 54 #[.agg (vEnc x)] w fun e w' => e = .returned (.bool (parB x)) ∧ Below w.heap.size w w' := by
  have PL : Hid (∀ X, Calls Tryd.prog 52 #[.int .i64 x.fm] X fun e w' => e = .returned (.bool (plainB x.fm)) ∧ w' = X) := fun X => isPlain_any x.fm X
  unfold parB vEnc
  cases hp : plainB x.fm
  · rw [hp] at PL
    go_enter Tryd.func54, Tryd.ntmps54
    go_wp2_with (go_at_call 52; refine (PL.out _).mono ?_; rintro e w1 ⟨rfl, rfl⟩)
    go_ret
    exact ⟨rfl, by go_grown⟩
  · rw [hp] at PL
    by_cases h1 : x.ln = 0
    · have d1 : (x.ln == 0) = true := by simpa using h1
      rw [decide_eq_true h1]
      go_enter Tryd.func54, Tryd.ntmps54
      go_wp2_with (go_at_call 52; refine (PL.out _).mono ?_; rintro e w1 ⟨rfl, rfl⟩)
      go_ret
      exact ⟨rfl, by go_grown⟩
    · have d1 : (x.ln == 0) = false := by simpa using h1
      rw [decide_eq_false h1]
      go_enter Tryd.func54, Tryd.ntmps54
      go_wp2_with (go_at_call 52; refine (PL.out _).mono ?_; rintro e w1 ⟨rfl, rfl⟩)
      go_ret
      exact ⟨rfl, by go_grown⟩
/-- May it be a constant? -/
def cnsB (c : Cn) (r : Option (Int × Int)) (m : Int) : Bool := match r with
  | none => false
  | some (lo, hi) => decide (lo ≤ c.n) && (decide (c.n ≤ hi) && (decide ((c.s.size : Int) ≤ m) && (c.ex && nameB c.nm)))
def cnB (c : Cn) : Bool := cnsB c (valB c.ty) (if c.ty = 7 then 200 else 0)
set_option maxHeartbeats 8000000 in
set_option maxRecDepth 20000 in
theorem isConst_any (c : Cn) (w : World) (hs : c.nm.size ≤ 140737488355328) : Calls Tryd.prog 23 #[.agg (cEnc c)] w fun e w' => e = .returned (.bool (cnB c)) ∧ Below w.heap.size w w' := by
  have VA : Hid (∀ X, Calls Tryd.prog 51 #[.int .i64 c.ty] X fun e w' => e = .returned (valT (valB c.ty)) ∧ w' = X) := fun X => values_any c.ty X
  have NM : Hid (∀ X, Calls Tryd.prog 21 #[.string c.nm] X fun e w' => e = .returned (.bool (nameB c.nm)) ∧ w' = X) := fun X => isName_any c.nm X hs
  unfold cnB cEnc
  generalize valB c.ty = r at *
  by_cases h7 : c.ty = 7
  · have d7 : (c.ty == 7) = true := by simpa using h7
    rw [if_pos h7]
    clear h7
    cases r with
    | none =>
      go_enter Tryd.func23, Tryd.ntmps23
      go_wp2_with (first
        | (go_at_call 51; refine (VA.out _).mono ?_; rintro e w1 ⟨rfl, rfl⟩; simp only [valT])
        | (go_at_call 21; refine (NM.out _).mono ?_; rintro e w1 ⟨rfl, rfl⟩))
      go_ret
      exact ⟨rfl, by go_grown⟩
    | some p =>
      obtain ⟨lo, hi⟩ := p
      unfold cnsB
      simp only
      cases e1 : decide (lo ≤ c.n) <;> cases e2 : decide (c.n ≤ hi) <;> cases e3 : decide ((c.s.size : Int) ≤ 200) <;> cases e4 : c.ex
      all_goals
        go_enter Tryd.func23, Tryd.ntmps23
        go_wp2_with (first
          | (go_at_call 51; refine (VA.out _).mono ?_; rintro e w1 ⟨rfl, rfl⟩; simp only [valT])
          | (go_at_call 21; refine (NM.out _).mono ?_; rintro e w1 ⟨rfl, rfl⟩))
        go_ret
        exact ⟨rfl, by go_grown⟩
  · have d7 : (c.ty == 7) = false := by simpa using h7
    rw [if_neg h7]
    clear h7
    cases r with
    | none =>
      go_enter Tryd.func23, Tryd.ntmps23
      go_wp2_with (first
        | (go_at_call 51; refine (VA.out _).mono ?_; rintro e w1 ⟨rfl, rfl⟩; simp only [valT])
        | (go_at_call 21; refine (NM.out _).mono ?_; rintro e w1 ⟨rfl, rfl⟩))
      go_ret
      exact ⟨rfl, by go_grown⟩
    | some p =>
      obtain ⟨lo, hi⟩ := p
      unfold cnsB
      simp only
      obtain ⟨nm, ty, n, sx, ex⟩ := c
      simp only at *
      by_cases hz : sx = ByteArray.empty
      · have e3 : decide ((sx.size : Int) ≤ 0) = true := by rw [hz]; rfl
        rw [e3]
        clear e3
        subst hz
        cases e1 : decide (lo ≤ n) <;> cases e2 : decide (n ≤ hi) <;> cases ex
        all_goals
          go_enter Tryd.func23, Tryd.ntmps23
          go_wp2_with (first
            | (go_at_call 51; refine (VA.out _).mono ?_; rintro e w1 ⟨rfl, rfl⟩; simp only [valT])
            | (go_at_call 21; refine (NM.out _).mono ?_; rintro e w1 ⟨rfl, rfl⟩))
          go_ret
          exact ⟨rfl, by go_grown⟩
      · have hp : sx.size ≠ 0 := fun e => hz (by cases sx with | mk d => cases d with | mk l => cases l with | nil => rfl | cons x r => cases e)
        have e3 : decide ((sx.size : Int) ≤ 0) = false := decide_eq_false (by omega)
        rw [e3]
        clear e3 hp
        cases e1 : decide (lo ≤ n) <;> cases e2 : decide (n ≤ hi) <;> cases ex
        all_goals
          go_enter Tryd.func23, Tryd.ntmps23
          go_wp2_with (first
            | (go_at_call 51; refine (VA.out _).mono ?_; rintro e w1 ⟨rfl, rfl⟩; simp only [valT])
            | (go_at_call 21; refine (NM.out _).mono ?_; rintro e w1 ⟨rfl, rfl⟩))
          go_ret
          exact ⟨rfl, by go_grown⟩
end Go.Proofs.YtcppgpcgbggdcaaDoor
