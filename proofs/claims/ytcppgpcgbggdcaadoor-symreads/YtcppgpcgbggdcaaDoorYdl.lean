/-
  Layer 13, the document's side: rows of names.
-/
import Derived.Test.YtcppgpcgbggdcaaDoorYdn
namespace Go.Proofs.YtcppgpcgbggdcaaDoor
set_option linter.unusedVariables false
set_option linter.unusedSimpArgs false
open Go.ChangeShapes Go.WideShapes Go.ChangeAt Go.RowKit

theorem RdV.cell {X : World} {k n : Nat} {s : Sl} {cs : List Value} (h : RdV X k s n cs) {g off : Nat} (ha : s.a = some ⟨g, off, none⟩) (hn : n ≠ 0) {j : Nat} {u : Value} (hu : cs[j]? = some u) : X.cell? ⟨g, off + j, none⟩ = some u := by
  rcases h.at_ with h0 | ⟨g1, off1, h1, h2, h3⟩
  · exact absurd h0 hn
  · rw [ha] at h1; injection h1 with h1; injection h1 with e1 e2; subst e1 e2
    exact h3 j u hu
theorem getD_at {α : Type} (l : List α) (d : α) (j : Nat) (hj : j < l.length) : l.getD j d = l[j] := by rw [List.getD_eq_getElem?_getD, List.getElem?_eq_getElem hj]; rfl
/-- Are texts names, no two the same? -/
def namesB (l : List ByteArray) : Bool := (List.range l.length).all fun i => nameB (l.getD i ⟨#[]⟩) && (List.range i).all fun k => !((l.getD k ⟨#[]⟩).data.toList == (l.getD i ⟨#[]⟩).data.toList)
/-- A row at a place, whatever is made behind. -/
theorem row_at {X : World} {α : Type} {val : α → Value} {s : Sl} {l : List α} (h : RdV X 1 s l.length (l.map val)) (i : Nat) (hi : i < l.length) : ∃ b off, s.a = some ⟨b, off, none⟩ ∧ ∀ j (hj : j < l.length), ∀ Y, Below X.heap.size X Y → Y.cell? ⟨b, off + j, none⟩ = some (val l[j]) := by
  rcases h.at_ with h0 | ⟨b, off, h1, _, _⟩
  · omega
  refine ⟨b, off, h1, fun j hj Y hY => ?_⟩
  have hu : (l.map val)[j]? = some (val l[j]) := by rw [List.getElem?_map, List.getElem?_eq_getElem hj]; rfl
  exact (h.below hY).cell h1 (by omega) hu
def nameP (l : List ByteArray) (i : Nat) : Bool := nameB (l.getD i ⟨#[]⟩) && (List.range i).all fun k => !((l.getD k ⟨#[]⟩).data.toList == (l.getD i ⟨#[]⟩).data.toList)
theorem names_not {l : List ByteArray} {i : Nat} (hi : i < l.length) (h : nameP l i = false) : namesB l = false := by
  cases hh : namesB l
  · rfl
  · have := List.all_eq_true.1 hh i (List.mem_range.2 hi)
    unfold nameP at h
    rw [this] at h
    cases h
theorem nameP_no {l : List ByteArray} {i : Nat} (h : nameB (l.getD i ⟨#[]⟩) = false) : nameP l i = false := by unfold nameP; rw [h]; rfl
theorem nameP_dup {l : List ByteArray} {i k : Nat} (hk : k < i) (h : (l.getD k ⟨#[]⟩).toList = (l.getD i ⟨#[]⟩).toList) : nameP l i = false := by
  unfold nameP
  rw [ByteArray.toList_eq, ByteArray.toList_eq] at h
  have : ((List.range i).all fun k => !((l.getD k ⟨#[]⟩).data.toList == (l.getD i ⟨#[]⟩).data.toList)) = false := by
    rw [List.all_eq_false]
    exact ⟨k, List.mem_range.2 hk, by show ¬ (!(_ == _)) = true; rw [h, beq_self_eq_true]; decide⟩
  rw [this, Bool.and_false]
theorem nameP_yes {l : List ByteArray} {i : Nat} (h : nameB (l.getD i ⟨#[]⟩) = true) (hk : ∀ k, k < i → (l.getD k ⟨#[]⟩).toList ≠ (l.getD i ⟨#[]⟩).toList) : nameP l i = true := by
  unfold nameP
  rw [h, Bool.true_and, List.all_eq_true]
  intro k hk2
  have := hk k (List.mem_range.1 hk2)
  rw [ByteArray.toList_eq, ByteArray.toList_eq] at this
  simpa using this
set_option maxHeartbeats 4000000 in
theorem rnames_any (w : World) (s : Sl) (l : List ByteArray) (h : RdV w 1 s l.length (l.map Value.string)) (hz : ∀ x ∈ l, x.size ≤ 140737488355328) : Calls Tryd.prog 40 #[.slice s.a s.n s.c] w fun e w' => e = .returned (.bool (namesB l)) ∧ Below w.heap.size w w' := by
  have NM : Hid (∀ (i : Nat) (X : World), i < l.length → Calls Tryd.prog 35 #[.string (l.getD i ⟨#[]⟩)] X fun e w' => e = .returned (.bool (nameB (l.getD i ⟨#[]⟩))) ∧ w' = X) := hid_of fun i X hi => risName_any _ X (by
    rw [getD_at l _ i hi]; exact hz _ (List.getElem_mem hi))
  have TW : Hid (∀ i, i < l.length → ∃ b off, s.a = some ⟨b, off, none⟩ ∧ ∀ j, j < l.length → ∀ Y, Below w.heap.size w Y → Y.cell? ⟨b, off + j, none⟩ = some (.string (l.getD j ⟨#[]⟩))) := hid_of fun i hi => by
    obtain ⟨b, off, e, hh⟩ := row_at h i hi
    exact ⟨b, off, e, fun j hj Y hY => by rw [getD_at l _ j hj]; exact hh j hj Y hY⟩
  have hm := h.most
  have hs := h.len
  obtain ⟨sa, sn, sc⟩ := s
  simp only at *
  obtain ⟨n, hn⟩ : ∃ n, n = l.length := ⟨_, rfl⟩
  have HN : Hid (n = l.length) := hn
  rw [← hn] at hm hs
  subst hs
  clear h hn hz
  obtain ⟨f, hf⟩ : ∃ f : Nat → ByteArray, f = fun i => l.getD i ⟨#[]⟩ := ⟨_, rfl⟩
  have HF : Hid (∀ i, f i = l.getD i ⟨#[]⟩) := hid_of fun i => by rw [hf]
  clear hf
  go_enter Tryd.func40, Tryd.ntmps40
  go_wp2
  go_loopg [3] sn (fun gf s3 wx => ∃ i : Nat, s3 = .int .i64 (i : Int) ∧ i + gf = sn ∧ Hid (Below w.heap.size w wx) ∧ Hid (∀ j, j < i → nameP l j = true))
  case atStart => exact ⟨0, rfl, by omega, Below.refl _ _, fun j hj => by omega⟩
  case round =>
    obtain ⟨i, rfl, hi, HB, HP⟩ := hrel
    by_cases hlt : i < sn
    · obtain ⟨g', rfl⟩ : ∃ g', gk = g' + 1 := ⟨gk - 1, by omega⟩
      have d1 : decide ((i : Int) < (sn : Int)) = true := decide_eq_true (by omega)
      have j0 : (0 : Int) ≤ (i : Int) := by omega
      have j1 : (i : Int) < (sn : Int) := by omega
      have HI : Hid (i < l.length) := hid_of (by rw [← HN.out]; exact hlt)
      obtain ⟨b, off, rfl, hc⟩ := TW.out i HI.out
      have HC : Hid (∀ j, j < l.length → ∀ Y, Below w.heap.size w Y → Y.cell? ⟨b, off + j, none⟩ = some (.string (f j))) := hid_of fun j hj Y hY => by rw [HF.out]; exact hc j hj Y hY
      have NI : Hid (Calls Tryd.prog 35 #[.string (f i)] wr fun e w' => e = .returned (.bool (nameB (f i))) ∧ w' = wr) := hid_of (by rw [HF.out]; exact NM.out i wr HI.out)
      clear hc TW NM
      have k0 := HC.out i HI.out wr HB.out
      cases hb : nameB (f i)
      · have HX : Hid (namesB l = false) := hid_of (names_not HI.out (nameP_no (by rw [← HF.out]; exact hb)))
        go_wp2_with (go_at_call 35; refine NI.out.mono ?_; rintro e w1 ⟨rfl, hw⟩; rw [hw, hb]; clear hw)
        go_ret
        exact ⟨ret_bool HX.out.symm, HB.out⟩
      · go_wp2_with (go_at_call 35; refine NI.out.mono ?_; rintro e w1 ⟨rfl, hw⟩; rw [hw, hb]; clear hw)
        clear NI
        go_loopg [5] i (fun hf s5 wy => ∃ k : Nat, s5 = .int .i64 (k : Int) ∧ k + hf = i ∧ Hid (Below w.heap.size w wy) ∧ Hid (∀ j, j < k → (f j).toList ≠ (f i).toList))
        case atStart => exact ⟨0, rfl, by omega, HB.out, fun j hj => by omega⟩
        case round =>
          obtain ⟨k, rfl, hk, HB2, HQ⟩ := hrel
          by_cases hlk : k < i
          · obtain ⟨h', rfl⟩ : ∃ h', gk = h' + 1 := ⟨gk - 1, by omega⟩
            have d2 : decide ((k : Int) < (i : Int)) = true := decide_eq_true (by omega)
            have q0 : (0 : Int) ≤ (k : Int) := by omega
            have q1 : (k : Int) < (sn : Int) := by omega
            have c0 := HC.out i HI.out wr HB2.out
            have c1 := HC.out k (Nat.lt_trans hlk HI.out) wr HB2.out
            clear k0
            cases hq : ((f k).toList == (f i).toList)
            · have HQ2 : Hid (∀ j, j < k + 1 → (f j).toList ≠ (f i).toList) := hid_of fun j hj => by
                rcases Nat.lt_or_ge j k with q | q
                · exact HQ.out j q
                · have : j = k := by omega
                  rw [this]; simpa using hq
              go_wp2
              go_region
              all_goals
                go_wp2
                go_roundg h'
                case measure => omega
                case rel => exact ⟨k + 1, by simp, by omega, HB2.out.drew, HQ2.out⟩
            · have HX : Hid (namesB l = false) := hid_of (names_not HI.out (nameP_dup hlk (by rw [← HF.out, ← HF.out]; simpa using hq)))
              go_wp2
              go_region
              all_goals
                go_wp2
                go_ret
                exact ⟨ret_bool HX.out.symm, HB2.out.drew⟩
          · have d2 : decide ((k : Int) < (i : Int)) = false := decide_eq_false (by omega)
            have HQ2 : Hid (∀ j, j < i + 1 → nameP l j = true) := hid_of fun j hj => by
              rcases Nat.lt_or_ge j i with q | q
              · exact HP.out j q
              · have : j = i := by omega
                rw [this]
                exact nameP_yes (by rw [← HF.out]; exact hb) (fun k2 hk2 => by rw [← HF.out, ← HF.out]; exact HQ.out k2 (by omega))
            go_wp2
            go_roundg g'
            case measure => omega
            case rel => exact ⟨i + 1, by simp, by omega, HB2.out, HQ2.out⟩
    · have d1 : decide ((i : Int) < (sn : Int)) = false := decide_eq_false (by omega)
      have HX : Hid (namesB l = true) := hid_of (by
        unfold namesB
        rw [List.all_eq_true]
        intro j hj
        exact HP.out j (by have := List.mem_range.1 hj; rw [← HN.out] at this; omega))
      go_wp2
      go_ret
      exact ⟨ret_bool HX.out.symm, HB.out⟩
end Go.Proofs.YtcppgpcgbggdcaaDoor
