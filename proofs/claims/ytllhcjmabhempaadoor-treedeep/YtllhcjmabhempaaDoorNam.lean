/-
  Layer 8, the program's: isKey, IsName, withText, nameOrKey, sign.
-/
import Derived.Test.YtllhcjmabhempaaDoorTkn
namespace Go.Proofs.YtllhcjmabhempaaDoor
set_option linter.unusedVariables false
set_option linter.unusedSimpArgs false
open Go.ChangeShapes Go.WideShapes Go.ChangeAt Go.RowKit


theorem index_arr (t n : Nat) (ht : Tryd.prog.underlying t = some (.array n 9)) (cs : Array Value) (i : Nat) (h : i < n) (x : Value) (hx : cs[i]? = some x) (w : World) : (Instr.index t (.agg cs) (.int .i64 (i : Int))).run Tryd.prog w = .ok x w := by
  have hn : (0 : Int) ≤ i ∧ (i : Int) < (n : Int) := by omega
  simp [Instr.index, run_underlying ht, asIntOf, hn, go_sem, h, hx]
theorem index_keys (i : Nat) (h : i < keysL.length) (w : World) : (Instr.index 73 (strsV keysL) (.int .i64 (i : Int))).run Tryd.prog w = .ok (.string (bs keysL[i])) w := by
  rw [strsV_eq]
  exact index_arr _ 32 Tryd.underlying73 _ i h _ (by rw [List.getElem?_toArray]; exact strs_at h) w
theorem index_signs (i : Nat) (h : i < signsL.length) (w : World) : (Instr.index 67 (strsV signsL) (.int .i64 (i : Int))).run Tryd.prog w = .ok (.string (bs signsL[i])) w := by
  rw [strsV_eq]
  exact index_arr _ 26 Tryd.underlying67 _ i h _ (by rw [List.getElem?_toArray]; exact strs_at h) w
theorem index_str (l : Bs) (i : Nat) (h : i < l.length) (z : Int) (hz : z = i) (w : World) : (Instr.index 9 (.string (bs l)) (.int .i64 z)).run Tryd.prog w = .ok (.int .u8 (l[i].toNat : Int)) w := by
  subst hz
  rw [run_index_string (h := Tryd.underlying9), dif_pos ⟨by omega, by rw [bs_size]; omega⟩]
  simp only [Int.toNat_natCast]
  rw [bs_get l i (by rw [bs_size]; exact h) h]
theorem str_eq (a b : Bs) : ((bs a).toList == (bs b).toList) = (a == b) := by rw [Lib.toList_data, Lib.toList_data, bs_data, bs_data]
set_option maxRecDepth 20000 in
theorem isKey_any (l : Bs) (w : World) (V : KVars w) : Calls Tryd.prog 48 #[.string (bs l)] w fun e w' => e = .returned (.bool (isKeyP l)) ∧ w' = w := by
  have LK := V.loadKeys
  clear V
  go_enter Tryd.func48, Tryd.ntmps48
  go_wp2
  go_loopg [2, 4, 6] 32 (fun gf s2 s4 s6 wx => ∃ i : Nat, s6 = .int .i64 (i : Int) ∧ i + gf = 32 ∧ wx = w ∧ Hid (isKeyP l = (keysL.drop i).contains l))
  case atStart => exact ⟨0, rfl, rfl, rfl, rfl⟩
  case round =>
    obtain ⟨i, rfl, hi, rfl, HK⟩ := hrel
    by_cases hlt : i < 32
    · obtain ⟨g', rfl⟩ : ∃ g', gk = g' + 1 := ⟨gk - 1, by omega⟩
      have IX := index_keys i hlt
      have hd : keysL.drop i = keysL[i]'hlt :: keysL.drop (i + 1) := List.drop_eq_getElem_cons hlt
      obtain ⟨x, hx⟩ : ∃ x, keysL[i]'hlt = x := ⟨_, rfl⟩
      rw [hx] at IX hd
      have hq := str_eq l x
      have hs : isKeyP l = (l == x || (keysL.drop (i + 1)).contains l) := by rw [HK.out, hd, List.contains_cons]
      clear HK hd hx
      cases he : (l == x)
      · rw [he] at hq hs
        have HK : Hid (isKeyP l = (keysL.drop (i + 1)).contains l) := by rw [Bool.false_or] at hs; exact hs
        clear hs he
        go_wp2
        go_roundg g'
        case measure => omega
        case rel => exact ⟨i + 1, rfl, by omega, rfl, HK⟩
      · rw [he] at hq hs
        have HK : Hid (isKeyP l = true) := by rw [Bool.true_or] at hs; exact hs
        clear hs he
        go_wp2
        go_ret
        exact ⟨ret_bool HK.out.symm, rfl⟩
    · obtain rfl : i = 32 := by omega
      have HK : Hid (isKeyP l = false) := HK.out
      go_wp2
      go_ret
      exact ⟨ret_bool HK.out.symm, rfl⟩
theorem conv_rune (c : Int) (h0 : 0 ≤ c) (h1 : c < 256) (w : World) : (convert 5 21 (.int .u8 c)).run Tryd.prog w = .ok (.int .i32 c) w := by
  have e : IntKind.i32.wrap c = c := by rw [IntKind.wrap_i32]; omega
  simp [convert, run_underlying Tryd.underlying5, run_underlying Tryd.underlying21, Conv.intToInt, e]
set_option maxHeartbeats 1000000 in
set_option maxRecDepth 20000 in
theorem isName_any (l : Bs) (hl : l.length ≤ 9223372036854775807) (w : World) (V : KVars w) : Calls Tryd.prog 50 #[.string (bs l)] w fun e w' => e = .returned (.bool (isNameP l)) ∧ Below w.heap.size w w' := by
  have hz := bs_size l
  cases l with
  | nil =>
    have hem : (bs []).toList.isEmpty = true := by rw [Lib.toList_data, bs_data]; rfl
    go_enter Tryd.func50, Tryd.ntmps50
    go_wp2
    go_ret
    exact ⟨rfl, Below.refl _ _⟩
  | cons c r =>
    have hem : (bs (c :: r)).toList.isEmpty = false := by rw [Lib.toList_data, bs_data]; rfl
    by_cases h20 : (c :: r).length ≤ 20
    · have hcl := c.toNat_lt
      have LT := isLetter_any (c.toNat : Int) w
      have IX : ∀ W, (Instr.index 9 (.string (bs (c :: r))) (.int .i64 0)).run Tryd.prog W = .ok (.int .u8 (c.toNat : Int)) W := fun W => index_str (c :: r) 0 (by simp) 0 rfl W
      have CV := fun W => conv_rune (c.toNat : Int) (by omega) (by omega) W
      have WO := wordOf_any (c :: r) (by omega) w
      have KY := fun W V => isKey_any (c :: r) W V
      have hq := str_eq (wordL (c :: r)) (c :: r)
      have hN0 : isNameP (c :: r) = (lett c && (wordL (c :: r) == (c :: r)) && !isKeyP (c :: r)) := by simp only [isNameP, List.isEmpty_cons, h20, decide_true, List.headD_cons]; simp
      have hN : Hid (isNameP (c :: r) = (lett c && (wordL (c :: r) == (c :: r)) && !isKeyP (c :: r))) := hN0
      clear hN0
      have hlt : lett c = ltrI c.toNat := rfl
      have h20' : decide ((20 : Int) < (((bs (c :: r)).size : Nat) : Int)) = false := by rw [hz]; simp at h20 ⊢; omega
      generalize wordL (c :: r) = x at WO hq hN
      generalize isKeyP (c :: r) = kk at KY hN
      generalize (c :: r) = L at *
      clear hl
      cases hb : ltrI c.toNat
      · rw [hb] at LT hlt
        have HN : Hid (isNameP L = false) := hN.out.trans (by rw [hlt]; rfl)
        clear hN hq
        go_enter Tryd.func50, Tryd.ntmps50
        go_wp2_with (go_at_call 20; refine LT.mono ?_; rintro e W' ⟨rfl, hw⟩; rw [hw]; clear hw)
        go_ret
        exact ⟨ret_bool HN.out.symm, Below.refl _ _⟩
      · rw [hb] at LT hlt
        cases hx : (x == L)
        · rw [hx] at hq
          have HN : Hid (isNameP L = false) := hN.out.trans (by rw [hx]; cases lett c <;> rfl)
          clear hN
          go_enter Tryd.func50, Tryd.ntmps50
          go_wp2_with (first | (go_at_call 20; refine LT.mono ?_; rintro e W' ⟨rfl, hw⟩; rw [hw]; clear hw) | (go_at_call 22; refine WO.mono ?_; rintro e W1 ⟨rfl, hb1⟩))
          go_ret
          exact ⟨ret_bool HN.out.symm, hb1⟩
        · rw [hx] at hq
          have HN : Hid (isNameP L = !kk) := hN.out.trans (by rw [hx, hlt]; rfl)
          clear hN
          go_enter Tryd.func50, Tryd.ntmps50
          go_wp2_with (first | (go_at_call 20; refine LT.mono ?_; rintro e W' ⟨rfl, hw⟩; rw [hw]; clear hw) | (go_at_call 22; refine WO.mono ?_; rintro e W1 ⟨rfl, hb1⟩) | (go_at_call 48; refine (KY _ (V.call hb1)).mono ?_; rintro e W' ⟨rfl, hw⟩; rw [hw]; clear hw))
          go_ret
          exact ⟨ret_bool HN.out.symm, hb1⟩
    · have hN : isNameP (c :: r) = false := by simp only [isNameP, h20, decide_false]; simp
      have HN : Hid (isNameP (c :: r) = false) := hN
      have h20' : decide ((20 : Int) < (((bs (c :: r)).size : Nat) : Int)) = true := by rw [hz]; simp at h20 ⊢; omega
      have h20l : decide ((20 : Int) < (((c :: r).length : Nat) : Int)) = true := by simp at h20 ⊢; omega
      have h20m : 20 < (c :: r).length := by omega
      clear hN h20
      generalize (c :: r) = L at *
      go_enter Tryd.func50, Tryd.ntmps50
      go_wp2
      go_ret
      exact ⟨ret_bool HN.out.symm, Below.refl _ _⟩
end Go.Proofs.YtllhcjmabhempaaDoor
