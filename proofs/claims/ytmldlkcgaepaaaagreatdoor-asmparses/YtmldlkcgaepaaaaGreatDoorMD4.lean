/-
  The document's layer 6: a line's name and operands.
-/
import Derived.Test.YtmldlkcgaepaaaaGreatDoorMD3
import Derived.Test.YtmldlkcgaepaaaaGreatDoorMMap
namespace Go.Proofs.YtmldlkcgaepaaaaGreatDoor
set_option linter.unusedVariables false
set_option linter.unusedSimpArgs false
open Go.ChangeShapes Go.WideShapes Go.ChangeAt Go.RowKit

def nameD (s : Bs) : Bs := s.takeWhile fun c => !blk c
def restD (s : Bs) : Bs := trimP (s.drop (nameD s).length)
def opsD (s : Bs) : List Bs := if restD s = [] then [] else (parts 44 (restD s)).map trimP
theorem take_name {s : Bs} {k : Nat} (hk : k ≤ s.length) (h : ∀ c ∈ s.take k, blk c = false) (he : k = s.length ∨ ∃ c, s[k]? = some c ∧ blk c = true) : nameD s = s.take k := by
  have e : s = s.take k ++ s.drop k := (List.take_append_drop k s).symm
  have h2 : ∀ (a b : Bs), (∀ c ∈ a, blk c = false) → (b = [] ∨ ∃ c r, b = c :: r ∧ blk c = true) → (a ++ b).takeWhile (fun c => !blk c) = a := by
    intro a
    induction a with
    | nil =>
      intro b _ hb
      rcases hb with rfl | ⟨c, r, rfl, hc⟩
      · rfl
      · simp [hc]
    | cons x a ih =>
      intro b ha hb
      rw [List.cons_append, List.takeWhile_cons, ha x (by simp)]
      simp [ih b (fun c hc => ha c (by simp [hc])) hb]
  have := h2 (s.take k) (s.drop k) h (by
    rcases he with rfl | ⟨c, hc, hb⟩
    · left; simp
    · right
      obtain ⟨hlt, hv⟩ := List.getElem?_eq_some_iff.1 hc
      exact ⟨c, s.drop (k + 1), by rw [List.drop_eq_getElem_cons hlt, hv], hb⟩)
  rw [← e] at this
  exact this
theorem cur_next44 {T : Bs} {f i : Nat} (hf : f ≤ i) (h : (44 : UInt8) ∉ (T.drop f).take (i - f)) (hc : T[i]? ≠ some 44) : (44 : UInt8) ∉ (T.drop f).take (i + 1 - f) := by
  rw [show i + 1 - f = (i - f) + 1 by omega, List.take_add_one, List.getElem?_drop, show f + (i - f) = i by omega]
  intro hm
  rcases List.mem_append.1 hm with h1 | h1
  · exact h h1
  · exact hc (by simpa using h1)
theorem drop_comma {T : Bs} {f i : Nat} (hf : f ≤ i) (hc : T[i]? = some 44) : T.drop f = (T.drop f).take (i - f) ++ 44 :: T.drop (i + 1) := by
  have h1 := List.take_append_drop (i - f) (T.drop f)
  rw [List.drop_drop, show f + (i - f) = i by omega] at h1
  have hi : i < T.length := (List.getElem?_eq_some_iff.1 hc).1
  have h2 : T.drop i = 44 :: T.drop (i + 1) := by
    rw [List.drop_eq_getElem_cons hi, (List.getElem?_eq_some_iff.1 hc).2]
  rw [h2] at h1
  exact h1.symm
theorem drop_len (p : UInt8 → Bool) : ∀ l : Bs, (l.dropWhile p).length ≤ l.length
  | [] => Nat.le_refl _
  | x :: r => by
    rw [List.dropWhile_cons]
    split
    · have := drop_len p r; simp; omega
    · exact Nat.le_refl _
theorem trim_le (l : Bs) : (trimP l).length ≤ l.length := by
  rw [trimP_eq]
  refine Nat.le_trans (drop_len _ _) ?_
  rw [List.length_reverse]
  refine Nat.le_trans (drop_len _ _) ?_
  rw [List.length_reverse]; exact Nat.le_refl _
def StO (T : Bs) (B : Nat) (wx : World) (i : Nat) (s6 s7 : Value) : Prop := ∃ (a : List Bs) (f : Nat), s7 = .int .i64 (f : Int) ∧ wx.ownsRow B 9 1 s6 a.length (strs (a.map trimP)) ∧ f ≤ i ∧ i ≤ T.length ∧ parts 44 T = a ++ parts 44 (T.drop f) ∧ (44 : UInt8) ∉ (T.drop f).take (i - f) ∧ a.length ≤ f
def StP (T : Bs) (B : Nat) (wx : World) (i : Nat) (s6 : Value) : Prop := i = T.length + 1 ∧ wx.ownsRow B 9 1 s6 (parts 44 T).length (strs ((parts 44 T).map trimP))
set_option maxHeartbeats 4000000 in
set_option maxRecDepth 20000 in
theorem roperands_any (s : Bs) (w : World) (hl : s.length ≤ 65536) :
    Calls Tryz.prog 27 #[.string (bs s)] w fun e w' => ∃ v, e = .returned (.tuple #[.string (bs (nameD s)), v]) ∧ w'.ownsRow w.heap.size 9 1 v (opsD s).length (strs (opsD s)) ∧ Below w.heap.size w w' := by
  have hz : (bs s).size = s.length := bs_size s
  obtain ⟨i0, hi0, hz0, hz1, hz2⟩ := info_parts info9'
  have TR : Hid (∀ m : Bs, m.length ≤ 9223372036854775807 → ∀ X, Calls Tryz.prog 26 #[.string (bs m)] X _) := fun m hm X => rtrim_any m X hm
  go_enter Tryz.func27, Tryz.ntmps27
  go_wp2
  go_loopw [4] (fun x wr => ∃ k : Nat, k ≤ s.length ∧ x = .int .i64 k ∧ (∀ c ∈ s.take k, blk c = false) ∧ wr = w) (fun x _ => s.length - (intOf x).toNat)
  case atStart => exact ⟨0, by omega, rfl, by simp, rfl⟩
  case round =>
    obtain ⟨k, hk, rfl, hno, rfl⟩ := hrel
    have key : (k < s.length ∧ ∃ h : k < s.length, blk s[k] = false) ∨ (k = s.length ∨ ∃ c, s[k]? = some c ∧ blk c = true) := by
      by_cases hlt : k < s.length
      · cases hb : blk s[k] with
        | false => exact .inl ⟨hlt, hlt, hb⟩
        | true => exact .inr (.inr ⟨s[k], List.getElem?_eq_getElem hlt, hb⟩)
      · exact .inr (.inl (by omega))
    rcases key with ⟨hlt, _, hb⟩ | hend
    · have hd : decide ((k : Int) < (s.length : Int)) = true := by simp; omega
      have BA : Hid (∀ X, Calls Tryz.prog 50 #[.int .u8 (s[k]).toNat] X _) := rblank_any s[k]
      rw [hb] at BA
      have HN : Hid (∀ c ∈ s.take (k + 1), blk c = false) := fun c hcm => by
        rw [List.take_add_one, List.getElem?_eq_getElem hlt] at hcm
        rcases List.mem_append.1 hcm with h1 | h1
        · exact hno c h1
        · simp at h1; rw [h1]; exact hb
      clear hno hb
      go_wp2_with (go_at_call 50; refine (BA.out _).mono ?_; rintro e wz ⟨rfl, hw⟩; obtain rfl := hw.symm; clear hw)
      refine ⟨⟨k + 1, by omega, by go_num, HN.out, trivial⟩, ?_⟩
      simp [intOf]; omega
    · have hnm := take_name hk hno hend
      have hrest : restD s = trimP (s.drop k) := by
        unfold restD
        rw [hnm, List.length_take, Nat.min_eq_left hk]
      have T2 : Hid (∀ X, Calls Tryz.prog 26 #[.string (bs (s.drop k))] X _) := TR.out (s.drop k) (by rw [List.length_drop]; omega)
      rw [← hrest] at T2
      have hrl : (restD s).length ≤ 65536 := Nat.le_trans (by rw [hrest]; exact trim_le _) (by rw [List.length_drop]; omega)
      have c1 : (bs s).extract k s.length = bs (s.drop k) := by
        rw [bs_cut]
        rw [List.take_of_length_le (by rw [List.length_drop]; omega)]
      have c2 : (bs s).extract 0 k = bs (nameD s) := by rw [bs_cut, hnm]; simp
      obtain ⟨R, hR⟩ : ∃ R, R = restD s := ⟨_, rfl⟩
      rw [← hR] at T2 hrl
      obtain ⟨N, hN⟩ : ∃ N, N = nameD s := ⟨_, rfl⟩
      rw [← hN] at c2
      have HQ : Hid (R = restD s ∧ N = nameD s) := ⟨hR, hN⟩
      have guard : (decide ((k : Int) < (s.length : Int)) = false ∧ decide (k < s.length) = false ∧ ¬ k < s.length) ∨ (decide ((k : Int) < (s.length : Int)) = true ∧ ∃ h : k < s.length, blk s[k] = true) := by
        rcases hend with h | ⟨c, hc, hb⟩
        · left; exact ⟨by simp; omega, by simp; omega, by omega⟩
        · right
          obtain ⟨hlt, hv⟩ := List.getElem?_eq_some_iff.1 hc
          exact ⟨by simp; omega, hlt, by rw [hv]; exact hb⟩
      clear hno hend hnm hrest hR hN
      by_cases hR0 : R = []
      · have hopsd : opsD s = [] := by rw [opsD, if_pos (by rw [← HQ.out.1]; exact hR0)]
        have HO : Hid (opsD s = [] ∧ N = nameD s) := ⟨hopsd, HQ.out.2⟩
        subst hR0
        have hem : (bs []).toList.isEmpty = true := by rw [Lib.toList_data, bs_data]; rfl
        clear hopsd HQ
        rcases guard with ⟨hd, hd', hnlt⟩ | ⟨hd, hlt, hb⟩
        · go_wp2_with (go_at_call 26; refine (T2.out _).mono ?_; rintro e wz ⟨rfl, hw⟩; obtain rfl := hw.symm; clear hw)
          go_ret2
          refine ⟨.slice none 0 0, ?_, ?_, Below.refl _ _⟩
          · rw [← HO.out.2]; rfl
          · rw [HO.out.1]; exact World.ownsRow_nil _ _ _ _
        · have BA : Hid (∀ X, Calls Tryz.prog 50 #[.int .u8 (s[k]).toNat] X _) := rblank_any s[k]
          rw [hb] at BA
          clear hb
          go_wp2_with (first | (go_at_call 50; refine (BA.out _).mono ?_; rintro e wz ⟨rfl, hw⟩; obtain rfl := hw.symm; clear hw) | (go_at_call 26; refine (T2.out _).mono ?_; rintro e wz ⟨rfl, hw⟩; obtain rfl := hw.symm; clear hw))
          go_ret2
          refine ⟨.slice none 0 0, ?_, ?_, Below.refl _ _⟩
          · rw [← HO.out.2]; rfl
          · rw [HO.out.1]; exact World.ownsRow_nil _ _ _ _
      · have hopsd : opsD s = (parts 44 R).map trimP := by rw [opsD, ← HQ.out.1, if_neg hR0]
        have HO : Hid (opsD s = (parts 44 R).map trimP ∧ N = nameD s) := ⟨hopsd, HQ.out.2⟩
        have hem : (bs R).toList.isEmpty = false := by
          rw [Lib.toList_data, bs_data]
          cases R with
          | nil => exact absurd rfl hR0
          | cons a b => rfl
        have hzR : (bs R).size = R.length := bs_size R
        clear hopsd HQ hR0
        rcases guard with ⟨hd, hd', hnlt⟩ | ⟨hd, hlt, hb⟩
        · go_wp2_with (go_at_call 26; refine (T2.out _).mono ?_; rintro e wz ⟨rfl, hw⟩; obtain rfl := hw.symm; clear hw)
          obtain ⟨wo, rfl⟩ : ∃ wo, wo = wr := ⟨_, rfl⟩
          go_loopg [6, 7, 8] (R.length + 2) (fun gf s6 s7 s8 wx => ∃ i : Nat, s8 = .int .i64 i ∧ R.length + 2 ≤ i + gf ∧ (StO R wo.heap.size wx i s6 s7 ∨ StP R wo.heap.size wx i s6) ∧ Below wo.heap.size wo wx)
          case atStart => exact ⟨0, rfl, by omega, .inl ⟨[], 0, rfl, World.ownsRow_nil _ _ _ _, by omega, by omega, by simp, by simp, by simp⟩, Below.refl _ _⟩
          case round =>
            obtain ⟨i, rfl, hg, hst, hbel⟩ := hrel
            have hsz := hbel.size
            rcases hst with ⟨a, f, rfl, hown, hfi, hiT, hparts, hcur, haf⟩ | ⟨rfl, hown⟩
            · obtain ⟨g', rfl⟩ : ∃ g', gk = g' + 1 := ⟨gk - 1, by omega⟩
              have hdi : decide ((i : Int) ≤ (R.length : Int)) = true := by simp; omega
              have hcutR : (bs R).extract f i = bs ((R.drop f).take (i - f)) := bs_cut R f i
              have hlz : ((R.drop f).take (i - f)).length ≤ 9223372036854775807 := by rw [List.length_take, List.length_drop]; omega
              have T3 : Hid (∀ X, Calls Tryz.prog 26 #[.string (bs ((R.drop f).take (i - f)))] X _) := TR.out _ hlz
              have ARM : True := trivial
              by_cases hend : i = R.length
              · have hdq : ((i : Int) == (R.length : Int)) = true := by simp; omega
                have hea : R.length ≤ i := by omega
                have HS : Hid (wr.ownsRow wo.heap.size 9 1 u6 a.length (strs (a.map trimP)) ∧ parts 44 R = a ++ parts 44 (R.drop f) ∧ (44 : UInt8) ∉ (R.drop f).take (i - f) ∧ (R.drop f).take (i - f) = R.drop f) := ⟨hown, hparts, hcur, List.take_of_length_le (by rw [List.length_drop]; omega)⟩
                clear hown hparts hcur hend
                generalize (R.drop f).take (i - f) = z at hcutR T3 HS
                go_wp2_with (first
                  | (go_at_call 26; refine (T3.out _).mono ?_; rintro e wz ⟨rfl, hw⟩; obtain rfl := hw.symm; clear hw)
                  | (at_builtin; go_loud (refine wpList_append_own _ rfl _ _ 22 rfl wo.heap.size 9 i0 (.string ⟨#[]⟩) 1 16 Tryz.underlying22 hi0 hz0 hz1 hz2 rfl (by decide) _ a.length _ rfl (World.ownsRow.alloc HS.out.1 _) ⟨wr.heap.size, 0, none⟩ 1 1 [.string (bs (trimP z))] rfl rfl (cell_new1 _ _ _) (by intro u hu; simp at hu; subst hu; rfl) (by unfold maxLen; omega) (by omega) (by simp; omega) ?_); intro v3 w3 hown3 hgrow3 hnil3))
                have q3 : Below wo.heap.size wo w3 := (hbel.alloc hsz _).grown hgrow3 (by simp; omega) (fun g hg => (World.ownsRow.lt HS.out.1 g hg).1)
                have hpz : parts 44 R = a ++ [z] := by rw [HS.out.2.1, ← HS.out.2.2.2, parts_free HS.out.2.2.1]
                have ho3 : w3.ownsRow wo.heap.size 9 1 v3 (parts 44 R).length (strs ((parts 44 R).map trimP)) := by
                  rw [hpz, List.map_append, List.map_singleton, strs_snoc, List.length_append]
                  exact hown3
                go_roundg g'
                case measure => omega
                case rel => exact ⟨i + 1, by go_num, by omega, .inr ⟨by omega, ho3⟩, q3⟩
              · have hlt2 : i < R.length := by omega
                have hatR : ∀ h, (bs R)[i]'h = R[i] := fun h => bs_at R i h hlt2
                have hdq : ((i : Int) == (R.length : Int)) = false := by simp; omega
                by_cases hcm : R[i]? = some 44
                · have hch : (((R[i]).toNat : Int) == 44) = true := by
                    rw [List.getElem?_eq_getElem hlt2] at hcm
                    injection hcm with hcm
                    rw [hcm]; rfl
                  have HS : Hid (wr.ownsRow wo.heap.size 9 1 u6 a.length (strs (a.map trimP)) ∧ parts 44 R = a ++ parts 44 (R.drop f) ∧ (44 : UInt8) ∉ (R.drop f).take (i - f) ∧ R.drop f = (R.drop f).take (i - f) ++ 44 :: R.drop (i + 1)) := ⟨hown, hparts, hcur, drop_comma hfi hcm⟩
                  clear hown hparts hcur hend hcm
                  generalize (R.drop f).take (i - f) = z at hcutR T3 HS
                  go_wp2_with (first
                    | (go_at_call 26; refine (T3.out _).mono ?_; rintro e wz ⟨rfl, hw⟩; obtain rfl := hw.symm; clear hw)
                    | (at_builtin; go_loud (refine wpList_append_own _ rfl _ _ 22 rfl wo.heap.size 9 i0 (.string ⟨#[]⟩) 1 16 Tryz.underlying22 hi0 hz0 hz1 hz2 rfl (by decide) _ a.length _ rfl (World.ownsRow.alloc HS.out.1 _) ⟨wr.heap.size, 0, none⟩ 1 1 [.string (bs (trimP z))] rfl rfl (cell_new1 _ _ _) (by intro u hu; simp at hu; subst hu; rfl) (by unfold maxLen; omega) (by omega) (by simp; omega) ?_); intro v3 w3 hown3 hgrow3 hnil3))
                  have q3 : Below wo.heap.size wo w3 := (hbel.alloc hsz _).grown hgrow3 (by simp; omega) (fun g hg => (World.ownsRow.lt HS.out.1 g hg).1)
                  have hpz : parts 44 R = (a ++ [z]) ++ parts 44 (R.drop (i + 1)) := by rw [HS.out.2.1, HS.out.2.2.2, parts_app _ HS.out.2.2.1]; simp
                  have ho3 : w3.ownsRow wo.heap.size 9 1 v3 (a ++ [z]).length (strs ((a ++ [z]).map trimP)) := by
                    rw [List.map_append, List.map_singleton, strs_snoc, List.length_append]
                    exact hown3
                  go_roundg g'
                  case measure => omega
                  case rel => exact ⟨i + 1, by go_num, by omega, .inl ⟨a ++ [z], i + 1, by go_num, ho3, by omega, by omega, hpz, by simp, by simp; omega⟩, q3⟩
                · have hch : (((R[i]).toNat : Int) == 44) = false := by
                    have : (R[i]).toNat ≠ 44 := fun e => hcm (by rw [List.getElem?_eq_getElem hlt2, UInt8.toNat_inj.1 (show (R[i]).toNat = (44 : UInt8).toNat by rw [e]; rfl)])
                    simp; omega
                  have HS : Hid (wr.ownsRow wo.heap.size 9 1 u6 a.length (strs (a.map trimP)) ∧ parts 44 R = a ++ parts 44 (R.drop f) ∧ (44 : UInt8) ∉ (R.drop f).take (i + 1 - f)) := ⟨hown, hparts, cur_next44 hfi hcur hcm⟩
                  clear hown hparts hcur hend hcm
                  go_wp2
                  go_roundg g'
                  case measure => omega
                  case rel => exact ⟨i + 1, by go_num, by omega, .inl ⟨a, f, rfl, HS.out.1, by omega, by omega, HS.out.2.1, HS.out.2.2, haf⟩, hbel⟩
            · have hdi : decide ((R.length : Int) + 1 ≤ (R.length : Int)) = false := by simp; omega
              have hdi2 : decide (((R.length + 1 : Nat) : Int) ≤ (R.length : Int)) = false := by simp; omega
              have HF : Hid (wr.ownsRow wo.heap.size 9 1 u6 (parts 44 R).length (strs ((parts 44 R).map trimP))) := hown
              clear hown
              go_wp2
              go_ret2
              refine ⟨u6, ?_, ?_, hbel⟩
              · rw [← HO.out.2]; rfl
              · rw [HO.out.1, List.length_map]; exact HF.out
        · have BA : Hid (∀ X, Calls Tryz.prog 50 #[.int .u8 (s[k]).toNat] X _) := rblank_any s[k]
          rw [hb] at BA
          clear hb
          go_wp2_with (first | (go_at_call 50; refine (BA.out _).mono ?_; rintro e wz ⟨rfl, hw⟩; obtain rfl := hw.symm; clear hw) | (go_at_call 26; refine (T2.out _).mono ?_; rintro e wz ⟨rfl, hw⟩; obtain rfl := hw.symm; clear hw))
          obtain ⟨wo, rfl⟩ : ∃ wo, wo = wr := ⟨_, rfl⟩
          go_loopg [6, 7, 8] (R.length + 2) (fun gf s6 s7 s8 wx => ∃ i : Nat, s8 = .int .i64 i ∧ R.length + 2 ≤ i + gf ∧ (StO R wo.heap.size wx i s6 s7 ∨ StP R wo.heap.size wx i s6) ∧ Below wo.heap.size wo wx)
          case atStart => exact ⟨0, rfl, by omega, .inl ⟨[], 0, rfl, World.ownsRow_nil _ _ _ _, by omega, by omega, by simp, by simp, by simp⟩, Below.refl _ _⟩
          case round =>
            obtain ⟨i, rfl, hg, hst, hbel⟩ := hrel
            have hsz := hbel.size
            rcases hst with ⟨a, f, rfl, hown, hfi, hiT, hparts, hcur, haf⟩ | ⟨rfl, hown⟩
            · obtain ⟨g', rfl⟩ : ∃ g', gk = g' + 1 := ⟨gk - 1, by omega⟩
              have hdi : decide ((i : Int) ≤ (R.length : Int)) = true := by simp; omega
              have hcutR : (bs R).extract f i = bs ((R.drop f).take (i - f)) := bs_cut R f i
              have hlz : ((R.drop f).take (i - f)).length ≤ 9223372036854775807 := by rw [List.length_take, List.length_drop]; omega
              have T3 : Hid (∀ X, Calls Tryz.prog 26 #[.string (bs ((R.drop f).take (i - f)))] X _) := TR.out _ hlz
              have ARM : True := trivial
              by_cases hend : i = R.length
              · have hdq : ((i : Int) == (R.length : Int)) = true := by simp; omega
                have hea : R.length ≤ i := by omega
                have HS : Hid (wr.ownsRow wo.heap.size 9 1 u6 a.length (strs (a.map trimP)) ∧ parts 44 R = a ++ parts 44 (R.drop f) ∧ (44 : UInt8) ∉ (R.drop f).take (i - f) ∧ (R.drop f).take (i - f) = R.drop f) := ⟨hown, hparts, hcur, List.take_of_length_le (by rw [List.length_drop]; omega)⟩
                clear hown hparts hcur hend
                generalize (R.drop f).take (i - f) = z at hcutR T3 HS
                go_wp2_with (first
                  | (go_at_call 26; refine (T3.out _).mono ?_; rintro e wz ⟨rfl, hw⟩; obtain rfl := hw.symm; clear hw)
                  | (at_builtin; go_loud (refine wpList_append_own _ rfl _ _ 22 rfl wo.heap.size 9 i0 (.string ⟨#[]⟩) 1 16 Tryz.underlying22 hi0 hz0 hz1 hz2 rfl (by decide) _ a.length _ rfl (World.ownsRow.alloc HS.out.1 _) ⟨wr.heap.size, 0, none⟩ 1 1 [.string (bs (trimP z))] rfl rfl (cell_new1 _ _ _) (by intro u hu; simp at hu; subst hu; rfl) (by unfold maxLen; omega) (by omega) (by simp; omega) ?_); intro v3 w3 hown3 hgrow3 hnil3))
                have q3 : Below wo.heap.size wo w3 := (hbel.alloc hsz _).grown hgrow3 (by simp; omega) (fun g hg => (World.ownsRow.lt HS.out.1 g hg).1)
                have hpz : parts 44 R = a ++ [z] := by rw [HS.out.2.1, ← HS.out.2.2.2, parts_free HS.out.2.2.1]
                have ho3 : w3.ownsRow wo.heap.size 9 1 v3 (parts 44 R).length (strs ((parts 44 R).map trimP)) := by
                  rw [hpz, List.map_append, List.map_singleton, strs_snoc, List.length_append]
                  exact hown3
                go_roundg g'
                case measure => omega
                case rel => exact ⟨i + 1, by go_num, by omega, .inr ⟨by omega, ho3⟩, q3⟩
              · have hlt2 : i < R.length := by omega
                have hatR : ∀ h, (bs R)[i]'h = R[i] := fun h => bs_at R i h hlt2
                have hdq : ((i : Int) == (R.length : Int)) = false := by simp; omega
                by_cases hcm : R[i]? = some 44
                · have hch : (((R[i]).toNat : Int) == 44) = true := by
                    rw [List.getElem?_eq_getElem hlt2] at hcm
                    injection hcm with hcm
                    rw [hcm]; rfl
                  have HS : Hid (wr.ownsRow wo.heap.size 9 1 u6 a.length (strs (a.map trimP)) ∧ parts 44 R = a ++ parts 44 (R.drop f) ∧ (44 : UInt8) ∉ (R.drop f).take (i - f) ∧ R.drop f = (R.drop f).take (i - f) ++ 44 :: R.drop (i + 1)) := ⟨hown, hparts, hcur, drop_comma hfi hcm⟩
                  clear hown hparts hcur hend hcm
                  generalize (R.drop f).take (i - f) = z at hcutR T3 HS
                  go_wp2_with (first
                    | (go_at_call 26; refine (T3.out _).mono ?_; rintro e wz ⟨rfl, hw⟩; obtain rfl := hw.symm; clear hw)
                    | (at_builtin; go_loud (refine wpList_append_own _ rfl _ _ 22 rfl wo.heap.size 9 i0 (.string ⟨#[]⟩) 1 16 Tryz.underlying22 hi0 hz0 hz1 hz2 rfl (by decide) _ a.length _ rfl (World.ownsRow.alloc HS.out.1 _) ⟨wr.heap.size, 0, none⟩ 1 1 [.string (bs (trimP z))] rfl rfl (cell_new1 _ _ _) (by intro u hu; simp at hu; subst hu; rfl) (by unfold maxLen; omega) (by omega) (by simp; omega) ?_); intro v3 w3 hown3 hgrow3 hnil3))
                  have q3 : Below wo.heap.size wo w3 := (hbel.alloc hsz _).grown hgrow3 (by simp; omega) (fun g hg => (World.ownsRow.lt HS.out.1 g hg).1)
                  have hpz : parts 44 R = (a ++ [z]) ++ parts 44 (R.drop (i + 1)) := by rw [HS.out.2.1, HS.out.2.2.2, parts_app _ HS.out.2.2.1]; simp
                  have ho3 : w3.ownsRow wo.heap.size 9 1 v3 (a ++ [z]).length (strs ((a ++ [z]).map trimP)) := by
                    rw [List.map_append, List.map_singleton, strs_snoc, List.length_append]
                    exact hown3
                  go_roundg g'
                  case measure => omega
                  case rel => exact ⟨i + 1, by go_num, by omega, .inl ⟨a ++ [z], i + 1, by go_num, ho3, by omega, by omega, hpz, by simp, by simp; omega⟩, q3⟩
                · have hch : (((R[i]).toNat : Int) == 44) = false := by
                    have : (R[i]).toNat ≠ 44 := fun e => hcm (by rw [List.getElem?_eq_getElem hlt2, UInt8.toNat_inj.1 (show (R[i]).toNat = (44 : UInt8).toNat by rw [e]; rfl)])
                    simp; omega
                  have HS : Hid (wr.ownsRow wo.heap.size 9 1 u6 a.length (strs (a.map trimP)) ∧ parts 44 R = a ++ parts 44 (R.drop f) ∧ (44 : UInt8) ∉ (R.drop f).take (i + 1 - f)) := ⟨hown, hparts, cur_next44 hfi hcur hcm⟩
                  clear hown hparts hcur hend hcm
                  go_wp2
                  go_roundg g'
                  case measure => omega
                  case rel => exact ⟨i + 1, by go_num, by omega, .inl ⟨a, f, rfl, HS.out.1, by omega, by omega, HS.out.2.1, HS.out.2.2, haf⟩, hbel⟩
            · have hdi : decide ((R.length : Int) + 1 ≤ (R.length : Int)) = false := by simp; omega
              have hdi2 : decide (((R.length + 1 : Nat) : Int) ≤ (R.length : Int)) = false := by simp; omega
              have HF : Hid (wr.ownsRow wo.heap.size 9 1 u6 (parts 44 R).length (strs ((parts 44 R).map trimP))) := hown
              clear hown
              go_wp2
              go_ret2
              refine ⟨u6, ?_, ?_, hbel⟩
              · rw [← HO.out.2]; rfl
              · rw [HO.out.1, List.length_map]; exact HF.out
theorem cfind_nil : cfind [] 16 0 = -1 := by decide
theorem cond_ne (k : Nat) (h : k < 16) : condName (k : Int) ≠ [] := (cond_ok (k : Int) (by omega) (by omega)).2
set_option maxHeartbeats 1000000 in
set_option maxRecDepth 20000 in
theorem rfind_nil (g : Nat) (w : World) (hc : ∀ o : Nat, o < 16 → w.cell? ⟨g, o, none⟩ = some (.string (bs (condName o)))) :
    Calls Tryz.prog 51 #[.slice (some ⟨g, 0, none⟩) 16 16, .string (bs [])] w fun e w' => e = .returned (.int .i64 (cfind [] 16 0)) ∧ w' = w := by
  have HC : Hid (∀ o : Nat, o < 16 → w.cell? ⟨g, o, none⟩ = some (.string (bs (condName o)))) := hc
  rw [cfind_nil]
  clear hc
  go_enter Tryz.func51, Tryz.ntmps51
  go_wp2
  go_loopw [5] (fun x wr => ∃ k : Nat, k ≤ 16 ∧ x = .int .i64 k ∧ wr = w) (fun x _ => 16 - (intOf x).toNat)
  case atStart => exact ⟨0, by omega, rfl, rfl⟩
  case round =>
    obtain ⟨k, hk, rfl, rfl⟩ := hrel
    by_cases hlt : k < 16
    · have hc1 := HC.out k hlt
      have hd : decide ((k : Int) < 16) = true := by simp; omega
      have heq : ((bs (condName k)).toList == (bs []).toList) = false := by
        rw [Lib.toList_data, Lib.toList_data, bs_data, bs_data]
        simpa using cond_ne k hlt
      generalize condName (k : Int) = cn at hc1 heq
      go_wp2
      refine ⟨⟨k + 1, by omega, by go_num, trivial⟩, ?_⟩
      simp [intOf]; omega
    · have hd : decide ((k : Int) < 16) = false := by simp; omega
      obtain rfl : k = 16 := by omega
      go_wp2
      go_ret
      exact ⟨rfl, rfl⟩
theorem rfind_all (s : Bs) (g : Nat) (w : World) (hc : ∀ o : Nat, o < 16 → w.cell? ⟨g, o, none⟩ = some (.string (bs (condName o)))) :
    Calls Tryz.prog 51 #[.slice (some ⟨g, 0, none⟩) 16 16, .string (bs s)] w fun e w' => e = .returned (.int .i64 (cfind s 16 0)) ∧ w' = w := by
  by_cases h : s = []
  · subst h; exact rfind_nil g w hc
  · exact rfind_any s g w h hc
end Go.Proofs.YtmldlkcgaepaaaaGreatDoor
