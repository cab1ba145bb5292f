/-
  The document's layer 8: All, of every text.
-/
import Derived.Test.YtphogfomlmjeiaaDoorRf6
import Derived.Test.YtphogfomlmjeiaaDoorRf2
import Derived.Test.YtphogfomlmjeiaaDoorAll
namespace Go.Proofs.YtphogfomlmjeiaaDoor
set_option linter.unusedVariables false
set_option linter.unusedSimpArgs false
open Go.ChangeShapes Go.WideShapes Go.ChangeAt Go.RowKit
attribute [local go_sem ↓] loadTk_seal storeTk_seal loadKeys_seal loadSigns_seal
attribute [local go_sem] loadTk_run storeTk_run rowAt_at rowAt_old rowAt_drew rowAt_drewN roomTk_new roomAt_old roomAt_drew roomAt_drewN putTk_new Tk.fold putRow_past rowTk_put size_put putRow_drew putRow_drewN alloc_drewN setCell_drewN Tk.at0 Tk.at1 Tk.at2 Tk.at3 Tk.size Tk.set0 Tk.set1 Tk.set2 Tk.set3 Tk.ne rowAt_set rowAt_far roomAt_far

def appU (t : Array TypeId) (r : TypeId) (xs : Array Value) : Sem Value := Builtin.append_ t r xs
theorem appU_seal (t : Array TypeId) (r : TypeId) (xs : Array Value) : Builtin.append_ t r xs = appU t r xs := rfl
theorem first_opens {l : Bs} (h : opens l = true) : (firstP l).e = 85 := by
  obtain ⟨r, rfl⟩ := opens_two h
  show (firstC 40 _).e = 85
  unfold firstC
  rw [h]; rfl
theorem own_lt' {w : World} {B e size n : Nat} {v : Value} {xs : List Value} (h : w.ownsRow B e size v n xs) : ∀ j, v.ownBlock = some j → B ≤ j ∧ j < w.heap.size := own_lt h
theorem app_aft1 {w w2 w3 : World} {v : Value} {n : Nat} {xs : List Value} {c : Tk} {t : TypeId} (hown : w2.ownsRow w.heap.size t 4 v n xs) (hbl : Below w.heap.size w w2) (hg : (w2.alloc (.cells c.cells t)).grownBy w3 v.ownBlock) : Below w.heap.size w w3 := by
  have := hbl.size
  exact (hbl.alloc (by omega) _).grown hg (by simp; omega) (fun j hj => (own_lt hown _ hj).1)
theorem bld_fold (c z : Tk) : Array.foldl (fun cs x => cs.setIfInBounds x.snd x.fst) #[z.cells[0]!, z.cells[1]!, z.cells[2]!, z.cells[3]!] c.cells.zipIdx 0 4 = c.cells := rfl
attribute [local go_sem ↓] appU_seal
attribute [local go_sem] bld_fold
set_option maxHeartbeats 2000000 in
theorem rall_any (l : Bs) (w : World) : Calls Tryd.prog 9 #[.string (bs l)] w fun e w' => ∃ v, e = .returned (.tuple #[v, .int .i64 ((allP l).p : Int), .int .i64 (allP l).e]) ∧ w'.ownsRow w.heap.size 29 4 v (allP l).ts.length (tokC (allP l).ts) ∧ Below w.heap.size w w' := by
  have hz := bs_size l
  by_cases hl : 16384 < l.length
  · have e : allP l = ⟨[], 0, 80⟩ := by unfold allP; rw [if_pos hl]
    rw [e]
    have g1 : decide ((16384 : Int) < (l.length : Int)) = true := by simp; omega
    go_enter Tryd.func9, Tryd.ntmps9
    go_wp2
    go_ret3
    exact ⟨_, rfl, ⟨rfl, .inl ⟨rfl, rfl⟩⟩, Below.refl _ _⟩
  · have hl : l.length ≤ 16384 := by omega
    have hA := allP_goX l hl
    generalize allP l = A at *
    obtain ⟨i0, hi0, hz0, hz1, hz2⟩ := info_parts info29
    go_enter Tryd.func9, Tryd.ntmps9
    go_wp2
    go_loopg [2, 3, 4, 5, 6] (l.length + 1) (fun gf s2 s3 s4 s5 s6 wx => ∃ (p : Nat) (d : List Tok), s2 = .slice none 0 0 ∧ s3 = .int .i64 0 ∧ s4 = .int .i64 0 ∧ s6 = .int .i64 (p : Int) ∧ p ≤ l.length ∧ l.length + 1 ≤ p + gf ∧ d.length ≤ p ∧ wx.ownsRow w.heap.size 29 4 s5 d.length (tokC d) ∧ Below w.heap.size w wx ∧ Hid (A = (goX p (l.drop p)).pre d))
    case atStart => exact ⟨0, [], rfl, rfl, rfl, rfl, by omega, by omega, by simp, ⟨rfl, .inl ⟨rfl, rfl⟩⟩, Below.refl _ _, by rw [pre_nil]; exact hA⟩
    case round =>
      obtain ⟨p, d, rfl, rfl, rfl, rfl, hp, hp2, hdp, hown, hbw, HA⟩ := hrel
      clear hA
      have hA := HA.out
      have hsk := skip_le (l.drop p)
      rw [List.length_drop] at hsk
      have BL := fun W => rblanks_any l (by omega) p hp W
      have hdd : (l.drop p).drop (skip (l.drop p)) = l.drop (p + skip (l.drop p)) := by rw [List.drop_drop]
      obtain ⟨r, hr⟩ : ∃ r, firstP ((l.drop p).drop (skip (l.drop p))) = r := ⟨_, rfl⟩
      have hr2 : firstP (l.drop (p + skip (l.drop p))) = r := by rw [← hdd]; exact hr
      have hk0 : r.e = 0 → p + skip (l.drop p) ≠ l.length → r.k ≠ 0 := fun a hne hk => by
        have := (first_end (l := l.drop (p + skip (l.drop p))) (by rw [hr2]; exact a)).1 (by rw [hr2]; exact hk)
        have := congrArg List.length this
        rw [List.length_drop] at this
        simp at this; omega
      have g1 := goX_bad p (l.drop p) r.e (by rw [hr])
      have g2 := goX_end p (l.drop p)
      have g3 := goX_step p (l.drop p) r hr
      rw [hr] at g2
      rw [List.length_drop, List.drop_drop] at g3
      obtain ⟨b, hb⟩ : ∃ b, skip (l.drop p) = b := ⟨_, rfl⟩
      rw [hb] at g1 g2 g3 BL hsk hr2 hk0
      clear hb hdd hr HA
      have hbs := hbw.size
      cases ho : opens (l.drop (p + b))
      · rw [ho] at BL
        have BL : Hid (∀ W, Calls Tryd.prog 19 #[.string (bs l), .int .i64 (p : Int)] W fun e w' => e = .returned (.tuple #[.int .i64 ((p + b : Nat) : Int), .bool true]) ∧ w' = W) := BL
        by_cases hend : p + b = l.length
        · have hnil : l.drop (p + b) = [] := List.drop_of_length_le (by omega)
          rw [hnil] at hr2
          subst hr2
          rw [g2 rfl rfl] at hA
          have HA : Hid (A = ⟨d ++ [⟨0, [], 0, p + b⟩], 0, 0⟩) := hA
          have k1 : (((p + b : Nat) : Int) == (l.length : Int)) = true := by rw [hend]; simp
          clear hA g1 g2 g3 hnil ho
          generalize p + b = P at *
          subst hend
          obtain ⟨v3, w3, hrun, hown3, hgrow3, _⟩ := run_append_own (P := Tryd.prog) (w := wr.alloc (.cells (Tk.mk 0 ⟨#[]⟩ 0 (l.length : Int)).cells 29)) w.heap.size 23 23 29 i0 (.agg #[.int .i64 0, .string ⟨#[]⟩, .int .i64 0, .int .i64 0]) 4 40 Tryd.underlying23 hi0 hz0 hz1 hz2 rfl (by decide) _ d.length _ (hown.alloc _) ⟨wr.heap.size, 0, none⟩ 1 1 (Tk.mk 0 ⟨#[]⟩ 0 (l.length : Int)).cells.toList rfl (new_tok _ _ _ _ rfl) (Tk.one _) (by unfold maxLen; omega) (by omega) (by simp; omega)
          have hbl3 := app_aft1 hown hbw hgrow3
          rw [appU_seal] at hrun
          go_wp2_with (go_at_call 19; refine (BL.out _).mono ?_; rintro e W' ⟨rfl, hw⟩; rw [hw]; clear hw)
          go_ret3
          refine ⟨v3, by rw [HA.out]; rfl, ?_, hbl3⟩
          rw [HA.out, List.length_append, tokC_app, tokC_one]
          exact hown3
        · have k1 : (((p + b : Nat) : Int) == (l.length : Int)) = false := by rw [beq_eq_false_iff_ne]; omega
          have TK : Hid (∀ W, Calls Tryd.prog 20 #[.string (bs l), .int .i64 ((p + b : Nat) : Int)] W fun e w' => ∃ v, e = .returned v ∧ TokIs r (p + b) v ∧ Below W.heap.size W w') := fun W => by have := rtoken_any l (by omega) (p + b) (by omega) ho W; rw [hr2] at this; exact this
          clear hr2
          by_cases he : r.e = 0
          · have hk : r.k ≠ 0 := hk0 he hend
            obtain ⟨q1, q2, q3⟩ := g3 he hk
            rw [q1, pre_pre] at hA
            have HA : Hid (A = (goX (p + b + r.len) (l.drop (p + (b + r.len)))).pre (d ++ [⟨r.k, r.t, r.n, p + b⟩])) := hA
            have TB : Hid (∀ W, Calls Tryd.prog 20 #[.string (bs l), .int .i64 ((p + b : Nat) : Int)] W fun e w' => e = .returned (.tuple #[.agg (Tk.mk r.k (bs r.t) r.n ((p + b : Nat) : Int)).cells, .int .i64 ((p + b + r.len : Nat) : Int), .int .i64 0]) ∧ Below W.heap.size W w') := fun W => (TK.out W).mono fun e w' ⟨v, h1, h2, h3⟩ => ⟨by rw [h1, h2, if_pos he], h3⟩
            obtain ⟨g', rfl⟩ : ∃ g', gk = g' + 1 := ⟨gk - 1, by omega⟩
            have hP3 : p + b + r.len ≤ l.length := by omega
            have hPp : p ≤ p + b := by omega
            have hP1 : p + b + 1 ≤ p + b + r.len := by omega
            rw [show p + (b + r.len) = p + b + r.len by omega] at HA
            clear hA g1 g2 g3 TK ho q1 q2 q3 hsk
            generalize p + b + r.len = P3 at *
            generalize p + b = P at *
            go_wp2_with (first | (go_at_call 19; refine (BL.out _).mono ?_; rintro e W' ⟨rfl, hw⟩; rw [hw]; clear hw) | (go_at_call 20; refine (TB.out _).mono ?_; rintro e w2 ⟨rfl, hb2⟩) | (at_builtin; refine wpList_append_own _ rfl _ _ 23 rfl w.heap.size 29 i0 (.agg #[.int .i64 0, .string ⟨#[]⟩, .int .i64 0, .int .i64 0]) 4 40 Tryd.underlying23 hi0 hz0 hz1 hz2 rfl (by decide) _ d.length _ rfl (((own_call hown hb2).alloc _).alloc _) ⟨w2.heap.size + 1, 0, none⟩ 1 1 (Tk.mk r.k (bs r.t) r.n (P : Int)).cells.toList rfl rfl (new_tok _ _ _ _ (by simp)) (Tk.one _) (by unfold maxLen; omega) (by omega) (by simp; have := hb2.size; omega) ?_; intro v3 w3 hown3 hgrow3 hnil3; obtain ⟨hcl, hbl3⟩ := app_aft (own_call hown hb2) (Below.call hbw hb2 (Nat.le_refl _)) hgrow3))
            go_roundg g'
            case measure => omega
            case rel =>
              refine ⟨P3, d ++ [⟨r.k, r.t, r.n, P⟩], rfl, rfl, rfl, rfl, by omega, by omega, by simp; omega, ?_, hbl3, HA⟩
              rw [List.length_append, tokC_app, tokC_one]
              exact hown3
          · rw [g1 he] at hA
            have HA : Hid (A = ⟨[], p + b, r.e⟩) := hA.trans (by unfold Al.pre; rw [if_neg he])
            have ne : (r.e != 0) = true := by simpa using he
            have TB : Hid (∀ W, Calls Tryd.prog 20 #[.string (bs l), .int .i64 ((p + b : Nat) : Int)] W fun e w' => e = .returned (.tuple #[.agg (Tk.mk 0 ⟨#[]⟩ 0 0).cells, .int .i64 0, .int .i64 r.e]) ∧ Below W.heap.size W w') := fun W => (TK.out W).mono fun e w' ⟨v, h1, h2, h3⟩ => ⟨by rw [h1, h2, if_neg he], h3⟩
            clear hA g1 g2 g3 TK ho
            generalize p + b = P at *
            go_wp2_with (first | (go_at_call 19; refine (BL.out _).mono ?_; rintro e W' ⟨rfl, hw⟩; rw [hw]; clear hw) | (go_at_call 20; refine (TB.out _).mono ?_; rintro e w2 ⟨rfl, hb2⟩))
            go_ret3
            refine ⟨.slice none 0 0, by rw [HA.out]; rfl, ?_, ?_⟩
            · rw [HA.out]; exact ⟨rfl, .inl ⟨rfl, rfl⟩⟩
            · exact (Below.call hbw hb2 (Nat.le_refl _)).alloc (by have := hb2.size; omega) _
      · rw [ho] at BL
        have h85 : r.e = 85 := by rw [← hr2]; exact first_opens ho
        have BL : Hid (∀ W, Calls Tryd.prog 19 #[.string (bs l), .int .i64 (p : Int)] W fun e w' => e = .returned (.tuple #[.int .i64 ((p + b : Nat) : Int), .bool false]) ∧ w' = W) := BL
        rw [g1 (by omega)] at hA
        have HA : Hid (A = ⟨[], p + b, 85⟩) := hA.trans (by unfold Al.pre; rw [h85]; rfl)
        clear hA g1 g2 g3
        generalize p + b = P at *
        go_wp2_with (go_at_call 19; refine (BL.out _).mono ?_; rintro e W' ⟨rfl, hw⟩; rw [hw]; clear hw)
        go_ret3
        refine ⟨.slice none 0 0, by rw [HA.out]; rfl, ?_, hbw⟩
        rw [HA.out]; exact ⟨rfl, .inl ⟨rfl, rfl⟩⟩
end Go.Proofs.YtphogfomlmjeiaaDoor
