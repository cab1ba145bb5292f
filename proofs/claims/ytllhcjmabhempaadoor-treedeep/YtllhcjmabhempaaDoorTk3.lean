/-
  Layer 8, the program's: quoted, first.
-/
import Derived.Test.YtllhcjmabhempaaDoorTk2
namespace Go.Proofs.YtllhcjmabhempaaDoor
set_option linter.unusedVariables false
set_option linter.unusedSimpArgs false
open Go.ChangeShapes Go.WideShapes Go.ChangeAt Go.RowKit


theorem Below.size' {B : Nat} {a w : World} (h : Below B a w) : a.heap.size ≤ w.heap.size := h.size
theorem slice_tail (c : UInt8) (l : Bs) (w : World) : (Instr.slice 9 (.string (bs (c :: l))) (some (.int .i64 1)) none none).run Tryd.prog w = .ok (.string (bs l)) w := slice_l (c :: l) 1 (by simp) w
set_option maxHeartbeats 1000000 in
set_option maxRecDepth 20000 in
theorem quoted_any (c : UInt8) (l : Bs) (hl : l.length ≤ 1000000000) (w : World) (r : Rd) (hr : quotedP (c :: l) = r) : Calls Tryd.prog 25 #[.string (bs (c :: l))] w fun e w' => e = .returned (.tuple #[.agg (Tk.mk r.k (bs r.t) r.n 0).cells, .int .i64 (r.len : Int), .int .i64 r.e]) ∧ Below w.heap.size w w' := by
  have hz := bs_size l
  have ST := slice_tail c l
  have HR : Hid (quoT l (quoP 0 (l.drop 0)) = r) := hr
  clear hr
  generalize c :: l = L at *
  go_enter Tryd.func25, Tryd.ntmps25
  go_wp2
  go_loopg [3, 4] l.length (fun gf s3 s4 wx => ∃ pos : Nat, s3 = .int .i64 0 ∧ s4 = .int .i64 0 ∧ pos ≤ l.length ∧ l.length ≤ pos + gf ∧ wx.heap[w.heap.size + 1]? = some (.stringIter (bs l) pos) ∧ Below (w.heap.size + 1) (w.alloc (.cells (Tk.mk 0 ⟨#[]⟩ 0 0).cells 41)) wx ∧ Hid (quoT l (quoP pos (l.drop pos)) = r))
  case atStart => exact ⟨0, rfl, rfl, by omega, by omega, by have := World.iter_heap (w.alloc (.cells (Tk.mk 0 ⟨#[]⟩ 0 0).cells 41)) (bs l) 0; simpa using this, (Below.refl _ _).alloc (by simp) _, HR⟩
  case round =>
    obtain ⟨pos, rfl, rfl, hp, hp2, hit, hbw, HQ⟩ := hrel
    have hbl : Below w.heap.size w wr := ((Below.refl _ _).alloc (Nat.le_refl _) _).trans (hbw.mono (by omega))
    have m0 : roomAt wr w.heap.size 4 = true := (roomAt_below hbw _ _ (by omega)).trans (roomTk_new _ _ _ _ rfl)
    have hsz : w.heap.size + 1 < wr.heap.size := (Array.getElem?_eq_some_iff.1 hit).1
    clear HR
    by_cases hlt : pos < l.length
    · obtain ⟨g', rfl⟩ : ∃ g', gk = g' + 1 := ⟨gk - 1, by omega⟩
      obtain ⟨R, K, hnx, hK1, hK2, hR, hc⟩ := next_at l pos (w.heap.size + 1) wr hit hlt
      have hit2 := Lib.iterAt_heap wr (w.heap.size + 1) (bs l) pos (pos + K) hit
      have hbw2 := Lib.below_iterAt hbw (k := w.heap.size + 1) (Nat.le_refl _) (bs l) (pos + K)
      have hbl2 := Lib.below_iterAt hbl (k := w.heap.size + 1) (by omega) (bs l) (pos + K)
      have hsz2 := Lib.iterAt_size wr (w.heap.size + 1) (bs l) (pos + K)
      have m2 : roomAt (wr.iterAt (w.heap.size + 1) (bs l) (pos + K)) w.heap.size 4 = true := (roomAt_below hbw2 _ _ (by omega)).trans (roomTk_new _ _ _ _ rfl)
      obtain ⟨W, hWd⟩ : ∃ W, wr.iterAt (w.heap.size + 1) (bs l) (pos + K) = W := ⟨_, rfl⟩
      rw [hWd] at hnx hit2 hbw2 hbl2 m2 hsz2
      have hQ := HQ.out
      rw [drop_cons hlt, quoP] at hQ
      have b34 : l[pos] = 34 ↔ R = 34 := by
        rcases hc with ⟨q1, _, _⟩ | ⟨q1, q2, _⟩
        · constructor
          · intro h; rw [q1, h]; rfl
          · intro h; exact UInt8.toNat_inj.1 (by rw [← q1, h]; rfl)
        · constructor
          · intro h; rw [h] at q2; exact absurd q2 (by decide)
          · intro h; omega
      have bad : (l[pos].toNat < 32 ∨ 126 < l[pos].toNat ∨ pos = 200) ↔ (R < 32 ∨ 126 < R ∨ pos = 200) := by
        rcases hc with ⟨q1, _, _⟩ | ⟨q1, q2, _⟩ <;> omega
      have one : ¬ 126 < R → K = 1 := fun h => by rcases hc with ⟨_, q2, _⟩ | ⟨q1, _, _⟩ <;> omega
      clear hc hit hbw hWd HQ hbl m0
      by_cases h34 : R = 34
      · subst h34
        rw [if_pos (b34.2 rfl)] at hQ
        have HK : Hid (r = ⟨5, l.take pos, 0, pos + 2, 0⟩) := hQ.symm
        have SH := slice_h l pos (by omega)
        have WT := fun k W => withText_any k (l.take pos) (by rw [List.length_take]; omega) W
        clear hQ b34 bad one
        generalize l.take pos = d at *
        go_wp2_with (go_at_call 49; refine (WT _ _).mono ?_; rintro e w2 ⟨rfl, hb2⟩; have m3 : roomAt w2 w.heap.size 4 = true := (roomAt_below hb2 _ _ (by omega)).trans m2)
        refine ret3 rfl rfl (loadTk_row (rowTk_put _ _ _ m3)) rfl rfl rfl ⟨?_, ?_⟩
        · rw [HK.out]; rfl
        · exact below_put (Below.call hbl2 hb2 (Nat.le_refl _)) _ (Nat.le_refl _) _
      · rw [if_neg (fun h => h34 (b34.1 h))] at hQ
        have n34 : ((R : Int) == 34) = false := by rw [beq_eq_false_iff_ne]; omega
        by_cases hbad : R < 32 ∨ 126 < R ∨ pos = 200
        · rw [if_pos (bad.2 hbad)] at hQ
          have HK : Hid (r = .bad 83) := hQ.symm
          clear hQ b34 bad one
          by_cases h1 : R < 32
          · have d1 : decide ((R : Int) < 32) = true := by simp; omega
            go_wp2
            refine ret3 rfl rfl (loadTk_row (rowTk_put _ _ _ m2)) rfl rfl rfl ⟨?_, ?_⟩
            · rw [HK.out]; rfl
            · exact below_put hbl2 _ (Nat.le_refl _) _
          · have d1 : decide ((R : Int) < 32) = false := by simp; omega
            by_cases h2 : 126 < R
            · have d2 : decide ((126 : Int) < R) = true := by simp; omega
              go_wp2
              refine ret3 rfl rfl (loadTk_row (rowTk_put _ _ _ m2)) rfl rfl rfl ⟨?_, ?_⟩
              · rw [HK.out]; rfl
              · exact below_put hbl2 _ (Nat.le_refl _) _
            · have d2 : decide ((126 : Int) < R) = false := by simp; omega
              obtain rfl : pos = 200 := by omega
              go_wp2
              refine ret3 rfl rfl (loadTk_row (rowTk_put _ _ _ m2)) rfl rfl rfl ⟨?_, ?_⟩
              · rw [HK.out]; rfl
              · exact below_put hbl2 _ (Nat.le_refl _) _
        · rw [if_neg (fun h => hbad (bad.1 h))] at hQ
          obtain rfl := one (by omega)
          have HK : Hid (quoT l (quoP (pos + 1) (l.drop (pos + 1))) = r) := hQ
          have d1 : decide ((R : Int) < 32) = false := by simp; omega
          have d2 : decide ((126 : Int) < R) = false := by simp; omega
          have d3 : ((pos : Int) == 200) = false := by rw [beq_eq_false_iff_ne]; omega
          clear hQ b34 bad one
          go_wp2
          go_roundg g'
          case measure => omega
          case rel => exact ⟨pos + 1, rfl, rfl, by omega, by omega, hit2, hbw2, HK⟩
    · have hnx := next_end l pos (w.heap.size + 1) wr hit hlt
      have hQ := HQ.out
      rw [List.drop_of_length_le (by omega), quoP] at hQ
      have HK : Hid (r = .bad 83) := hQ.symm
      clear hQ HQ
      go_wp2
      refine ret3 rfl rfl (loadTk_row (rowTk_put _ _ _ m0)) rfl rfl rfl ⟨?_, ?_⟩
      · rw [HK.out]; rfl
      · exact below_put hbl _ (Nat.le_refl _) _
/-- Behind a call ahead of which the result's place was made. -/
theorem aft1 {w w1 : World} {A : Tk} {t : TypeId} (hb : Below (w.alloc (.cells A.cells t)).heap.size (w.alloc (.cells A.cells t)) w1) : Below w.heap.size w w1 ∧ roomAt w1 w.heap.size 4 = true ∧ w.heap.size < w1.heap.size := by
  have hs : (w.alloc (.cells A.cells t)).heap.size = w.heap.size + 1 := by simp
  rw [hs] at hb
  have := hb.size
  exact ⟨((Below.refl _ _).alloc (Nat.le_refl _) _).trans (hb.mono (by omega)), (roomAt_below hb _ _ (by omega)).trans (roomTk_new _ _ _ _ rfl), by omega⟩
theorem aft2 {w w1 w2 : World} (h : Below w.heap.size w w1 ∧ roomAt w1 w.heap.size 4 = true ∧ w.heap.size < w1.heap.size) (hb : Below w1.heap.size w1 w2) : Below w.heap.size w w2 ∧ roomAt w2 w.heap.size 4 = true ∧ w.heap.size < w2.heap.size := by
  have := hb.size
  exact ⟨Below.call h.1 hb (Nat.le_refl _), (roomAt_below hb _ _ h.2.2).trans h.2.1, by omega⟩
set_option maxHeartbeats 1000000 in
set_option maxRecDepth 20000 in
theorem first_any (l : Bs) (hl : l.length ≤ 1000000000) (w : World) (V : Vars w) (r : Rd) (hr : firstP l = r) : Calls Tryd.prog 13 #[.string (bs l)] w fun e w' => e = .returned (.tuple #[.agg (Tk.mk r.k (bs r.t) r.n 0).cells, .int .i64 (r.len : Int), .int .i64 r.e]) ∧ Below w.heap.size w w' := by
  have hz := bs_size l
  have VA := V.alloc (.cells (Tk.mk 0 ⟨#[]⟩ 0 0).cells 41)
  cases l with
  | nil =>
    subst hr
    have hem : (bs []).toList.isEmpty = true := by rw [Lib.toList_data, bs_data]; rfl
    go_enter Tryd.func13, Tryd.ntmps13
    go_wp2
    refine ret3 rfl rfl (loadTk_row (rowAt_at _ _ _ _ _ rfl)) rfl rfl rfl ⟨rfl, (Below.refl _ _).alloc (Nat.le_refl _) _⟩
  | cons c t =>
    have hem : (bs (c :: t)).toList.isEmpty = false := by rw [Lib.toList_data, bs_data]; rfl
    have hfst : r = firstC c (c :: t) := hr.symm
    have OP := fun W => opens_any (c :: t) W
    have IX : ∀ W, (Instr.index 9 (.string (bs (c :: t))) (.int .i64 0)).run Tryd.prog W = .ok (.int .u8 (c.toNat : Int)) W := fun W => index_str (c :: t) 0 (by simp) 0 rfl W
    have hc8 := c.toNat_lt
    have CV := fun W => conv_rune (c.toNat : Int) (by omega) (by omega) W
    have LT := fun W => isLetter_any (c.toNat : Int) W
    have DG := fun W => isDigit_any (c.toNat : Int) W
    have WO := fun W => wordOf_any (c :: t) hl W
    have hwl := wordL_len (c :: t)
    have hw1 : wch c = true → 0 < (wordL (c :: t)).length := fun h => by simp [wordL, h]
    have NK := fun W V => nameOrKey_any (wordL (c :: t)) (by omega) W V _ rfl
    have NU := fun h W => number_any (wordL (c :: t)) (by omega) h W _ rfl
    have QU := fun W => quoted_any c t (by simp at hl; omega) W _ rfl
    have SG := fun W V => sign_any (c :: t) hl W V _ rfl
    have hlet : lett c = ltrI c.toNat := rfl
    have hdig : dig c = digI c.toNat := rfl
    have hz0 : 0 < (c :: t).length := by simp
    clear hr
    unfold firstC at hfst
    generalize c :: t = L at *
    cases ho : opens L
    · rw [ho] at OP hfst
      rw [if_neg (by simp)] at hfst
      cases h1 : ltrI c.toNat
      · rw [h1] at LT hlet
        rw [hlet, if_neg (by simp)] at hfst
        cases h2 : digI c.toNat
        · rw [h2] at DG hdig
          rw [hdig, if_neg (by simp)] at hfst
          by_cases h34 : c = 34
          · rw [if_pos h34] at hfst
            subst h34
            subst hfst
            generalize quotedP L = q at *
            clear NK NU SG WO hw1
            go_enter Tryd.func13, Tryd.ntmps13
            go_wp2_with (first | (go_at_call 19; refine (OP _).mono ?_; rintro e W' ⟨rfl, hw⟩; rw [hw]; clear hw) | (go_at_call 20; refine (LT _).mono ?_; rintro e W' ⟨rfl, hw⟩; rw [hw]; clear hw) | (go_at_call 23; refine (DG _).mono ?_; rintro e W' ⟨rfl, hw⟩; rw [hw]; clear hw) | (go_at_call 25; refine (QU _).mono ?_; rintro e w1 ⟨rfl, hb⟩; obtain ⟨hbl3, m3, _⟩ := aft1 hb))
            refine ret3 rfl rfl (loadTk_row (rowTk_put _ _ _ m3)) rfl rfl rfl ⟨rfl, ?_⟩
            exact below_put hbl3 _ (Nat.le_refl _) _
          · rw [if_neg h34] at hfst
            subst hfst
            have n34 : ((c.toNat : Int) == 34) = false := u8_ne (k := 34) (by omega) h34
            generalize signP L = q at *
            clear NK NU QU WO hw1
            go_enter Tryd.func13, Tryd.ntmps13
            go_wp2_with (first | (go_at_call 19; refine (OP _).mono ?_; rintro e W' ⟨rfl, hw⟩; rw [hw]; clear hw) | (go_at_call 20; refine (LT _).mono ?_; rintro e W' ⟨rfl, hw⟩; rw [hw]; clear hw) | (go_at_call 23; refine (DG _).mono ?_; rintro e W' ⟨rfl, hw⟩; rw [hw]; clear hw) | (go_at_call 26; refine (SG _ VA).mono ?_; rintro e w1 ⟨rfl, hb⟩; obtain ⟨hbl3, m3, _⟩ := aft1 hb))
            refine ret3 rfl rfl (loadTk_row (rowTk_put _ _ _ m3)) rfl rfl rfl ⟨rfl, ?_⟩
            exact below_put hbl3 _ (Nat.le_refl _) _
        · rw [h2] at DG hdig
          rw [hdig, if_pos rfl] at hfst
          have NU := NU (hw1 (by simp [wch, hdig]))
          subst hfst
          generalize numP (wordL L) = q at *
          generalize wordL L = x at *
          clear NK SG QU hw1
          go_enter Tryd.func13, Tryd.ntmps13
          go_wp2_with (first | (go_at_call 19; refine (OP _).mono ?_; rintro e W' ⟨rfl, hw⟩; rw [hw]; clear hw) | (go_at_call 20; refine (LT _).mono ?_; rintro e W' ⟨rfl, hw⟩; rw [hw]; clear hw) | (go_at_call 23; refine (DG _).mono ?_; rintro e W' ⟨rfl, hw⟩; rw [hw]; clear hw) | (go_at_call 22; refine (WO _).mono ?_; rintro e w1 ⟨rfl, hb⟩) | (go_at_call 24; refine (NU _).mono ?_; rintro e w2 ⟨rfl, hb2⟩; obtain ⟨hbl3, m3, _⟩ := aft2 (aft1 hb) hb2))
          refine ret3 rfl rfl (loadTk_row (rowTk_put _ _ _ m3)) rfl rfl rfl ⟨rfl, ?_⟩
          exact below_put hbl3 _ (Nat.le_refl _) _
      · rw [h1] at LT hlet
        rw [hlet, if_pos rfl] at hfst
        subst hfst
        generalize nameP (wordL L) = q at *
        generalize wordL L = x at *
        clear NU SG QU hw1
        go_enter Tryd.func13, Tryd.ntmps13
        go_wp2_with (first | (go_at_call 19; refine (OP _).mono ?_; rintro e W' ⟨rfl, hw⟩; rw [hw]; clear hw) | (go_at_call 20; refine (LT _).mono ?_; rintro e W' ⟨rfl, hw⟩; rw [hw]; clear hw) | (go_at_call 22; refine (WO _).mono ?_; rintro e w1 ⟨rfl, hb⟩) | (go_at_call 21; refine (NK _ (VA.call hb)).mono ?_; rintro e w2 ⟨rfl, hb2⟩; obtain ⟨hbl3, m3, _⟩ := aft2 (aft1 hb) hb2))
        refine ret3 rfl rfl (loadTk_row (rowTk_put _ _ _ m3)) rfl rfl rfl ⟨rfl, ?_⟩
        exact below_put hbl3 _ (Nat.le_refl _) _
    · rw [ho] at OP hfst
      rw [if_pos rfl] at hfst
      subst hfst
      clear NK NU SG QU WO hw1
      go_enter Tryd.func13, Tryd.ntmps13
      go_wp2_with (go_at_call 19; refine (OP _).mono ?_; rintro e W' ⟨rfl, hw⟩; rw [hw]; clear hw)
      refine ret3 rfl rfl (loadTk_row (rowAt_at _ _ _ _ _ rfl)) rfl rfl rfl ⟨rfl, (Below.refl _ _).alloc (Nat.le_refl _) _⟩
end Go.Proofs.YtllhcjmabhempaaDoor
