/-
  Layer 8, the program's: All, of every text.
-/
import Derived.Test.YtllhcjmabhempaaDoorTk3
import Derived.Laws.AppendOwn
namespace Go.Proofs.YtllhcjmabhempaaDoor
set_option linter.unusedVariables false
set_option linter.unusedSimpArgs false
open Go.ChangeShapes Go.WideShapes Go.ChangeAt Go.RowKit


theorem goA_fuel : ∀ (f g p : Nat) (l : Bs), l.length < f → l.length < g → goA f p l = goA g p l
  | 0, _, _, _, h, _ => by omega
  | _ + 1, 0, _, _, _, h => by omega
  | f + 1, g + 1, p, l, hf, hg => by
    rw [goA, goA]
    split
    · rfl
    · rename_i he
      split
      · rfl
      · rename_i hk
        have he : (firstP (l.drop (skip l))).e = 0 := by omega
        have hne : l.drop (skip l) ≠ [] := fun h => hk ((first_end he).2 h)
        cases hd : l.drop (skip l) with
        | nil => exact absurd hd hne
        | cons c r =>
          rw [hd] at he
          have h1 := first_len he
          have hs := skip_le l
          have hlen : l.length - skip l = r.length + 1 := by have := congrArg List.length hd; rwa [List.length_drop, List.length_cons] at this
          rw [goA_fuel f g _ _ (by rw [List.length_drop]; omega) (by rw [List.length_drop]; omega)]
/-- What is read of a text from a place on. -/
def goX (p : Nat) (l : Bs) : Al := goA (l.length + 1) p l
theorem goX_bad (p : Nat) (l : Bs) (e : Int) (h : (firstP (l.drop (skip l))).e = e) (he : e ≠ 0) : goX p l = ⟨[], p + skip l, e⟩ := by
  unfold goX; rw [goA, if_pos (by rw [h]; exact he), h]
theorem goX_end (p : Nat) (l : Bs) (he : (firstP (l.drop (skip l))).e = 0) (hk : (firstP (l.drop (skip l))).k = 0) : goX p l = ⟨[⟨0, [], 0, p + skip l⟩], 0, 0⟩ := by
  unfold goX; rw [goA, if_neg (by rw [he]; simp), if_pos hk]
theorem goX_step (p : Nat) (l : Bs) (r : Rd) (hr : firstP (l.drop (skip l)) = r) (he : r.e = 0) (hk : r.k ≠ 0) :
    goX p l = (goX (p + skip l + r.len) (l.drop (skip l + r.len))).pre [⟨r.k, r.t, r.n, p + skip l⟩] ∧ 1 ≤ r.len ∧ skip l + r.len ≤ l.length := by
  have hs := skip_le l
  have hne : l.drop (skip l) ≠ [] := fun h => hk (by rw [← hr]; exact (first_end (by rw [hr]; exact he)).2 h)
  obtain ⟨c, t, hd⟩ : ∃ c t, l.drop (skip l) = c :: t := by
    cases hd : l.drop (skip l) with
    | nil => exact absurd hd hne
    | cons c r => exact ⟨c, r, rfl⟩
  have h1 := first_len (c := c) (r := t) (by rw [← hd, hr]; exact he)
  rw [← hd, hr] at h1
  have hlen : l.length - skip l = t.length + 1 := by have := congrArg List.length hd; rwa [List.length_drop, List.length_cons] at this
  refine ⟨?_, h1.1, by omega⟩
  unfold goX; rw [goA, if_neg (by rw [hr, he]; simp), if_neg (by rw [hr]; exact hk), hr]
  congr 1
  exact goA_fuel _ _ _ _ (by rw [List.length_drop]; omega) (by omega)
theorem allP_goX (l : Bs) (h : l.length ≤ 16384) : allP l = goX 0 l := by unfold allP goX; rw [if_neg (by omega)]

def Tok.tk (x : Tok) : Tk := ⟨x.k, bs x.t, x.n, x.p⟩
def tokC : List Tok → List Value
  | [] => []
  | x :: r => x.tk.cells.toList ++ tokC r
theorem tokC_len : ∀ d : List Tok, (tokC d).length = d.length * 4
  | [] => rfl
  | x :: r => by rw [tokC, List.length_append, tokC_len r, Array.length_toList, Tk.size, List.length_cons]; omega
theorem tokC_app : ∀ a b : List Tok, tokC (a ++ b) = tokC a ++ tokC b
  | [], _ => rfl
  | x :: r, b => by rw [List.cons_append, tokC, tokC, tokC_app r b, List.append_assoc]
theorem tokC_one (x : Tok) : tokC [x] = x.tk.cells.toList := by simp [tokC]
theorem tokC_at : ∀ (d : List Tok) (i j : Nat) (h : i < d.length), j < 4 → (tokC d)[i * 4 + j]? = d[i].tk.cells[j]?
  | x :: r, 0, j, _, hj => by
    rw [tokC, Nat.zero_mul, Nat.zero_add, List.getElem?_append_left (by rw [Array.length_toList, Tk.size]; exact hj)]
    simp
  | x :: r, i + 1, j, h, hj => by
    rw [tokC, List.getElem?_append_right (by rw [Array.length_toList, Tk.size]; omega), Array.length_toList, Tk.size, show (i + 1) * 4 + j - 4 = i * 4 + j by omega]
    exact tokC_at r i j (by simpa using h) hj
theorem info29 : (Tryd.prog.info? 41).map (fun i => (i.zero, i.size, i.bytes)) = some (some (.agg #[.int .i64 0, .string ⟨#[]⟩, .int .i64 0, .int .i64 0]), 4, 40) := by kernel_rfl
theorem own_call {w w' : World} {B e size n : Nat} {v : Value} {xs : List Value} (h : w.ownsRow B e size v n xs) (hb : Below w.heap.size w w') : w'.ownsRow B e size v n xs :=
  ⟨h.1, h.2.imp id fun ⟨g, cap, cur, a, b, c, d⟩ => ⟨g, cap, cur, a, b, by rw [hb.block g (Array.getElem?_eq_some_iff.1 c).1]; exact c, d⟩⟩
theorem own_lt {w : World} {B e size n : Nat} {v : Value} {xs : List Value} (h : w.ownsRow B e size v n xs) : ∀ j, v.ownBlock = some j → B ≤ j ∧ j < w.heap.size := fun j hj => by
  rcases h.2 with ⟨rfl, _⟩ | ⟨g, cap, cur, rfl, hb, hg, _⟩
  · simp [Value.ownBlock] at hj
  · simp only [Value.ownBlock, Option.some.injEq] at hj
    subst hj
    exact ⟨hb, (Array.getElem?_eq_some_iff.1 hg).1⟩
/-- The cells of a row of one token, newly made. -/
theorem new_tok (w : World) (c : Tk) (t : TypeId) (k : Nat) (hk : k = w.heap.size) : ∀ j u, c.cells.toList[j]? = some u → (w.alloc (.cells c.cells t)).cell? ((⟨k, 0, none⟩ : Addr).add j) = some u := by
  intro j u hj
  subst hk
  rw [Addr.add_mid, Nat.zero_add, rowAt_cell (rowAt_new w c.cells t _)]
  simpa using hj
theorem Tk.one (c : Tk) : ∀ u ∈ c.cells.toList, u.oneCell' = true := by simp [Tk.cells, Value.oneCell']
/-- Behind the append of a token that was made of a variable: the variable is as it was; all is new but the row. -/
theorem app_aft {w w2 w3 : World} {v : Value} {n : Nat} {xs : List Value} {c : Tk} {t : TypeId} (hown : w2.ownsRow w.heap.size t 4 v n xs) (hbl : Below w.heap.size w w2) (hg : ((w2.alloc (.cells c.cells t)).alloc (.cells c.cells t)).grownBy w3 v.ownBlock) :
    w3.cell? ⟨w2.heap.size, 0, none⟩ = some (.int .i64 c.k) ∧ Below w.heap.size w w3 := by
  have hne : ∀ j, v.ownBlock = some j → j < w2.heap.size := fun j hj => (own_lt hown j hj).2
  refine ⟨hg.cell ?_ (fun h => by have := hne _ h.symm; simp at this), ?_⟩
  · rw [World.cell?_alloc_old _ _ _ (by simp), rowAt_cell (rowAt_new w2 c.cells t _)]; exact Tk.at0 c
  · have := hbl.size
    exact ((hbl.alloc (by omega) _).alloc (by simp; omega) _).grown hg (by simp; omega) (fun j hj => (own_lt hown _ hj).1)
set_option maxHeartbeats 1000000 in
set_option maxRecDepth 20000 in
theorem all_any (l : Bs) (w : World) (V : Vars w) : Calls Tryd.prog 6 #[.string (bs l)] w fun e w' => ∃ v, e = .returned (.tuple #[v, .int .i64 ((allP l).p : Int), .int .i64 (allP l).e]) ∧ w'.ownsRow w.heap.size 41 4 v (allP l).ts.length (tokC (allP l).ts) ∧ Below w.heap.size w w' := by
  have hz := bs_size l
  by_cases hl : 16384 < l.length
  · have e : allP l = ⟨[], 0, 80⟩ := by unfold allP; rw [if_pos hl]
    rw [e]
    have g1 : decide ((16384 : Int) < (l.length : Int)) = true := by simp; omega
    go_enter Tryd.func6, Tryd.ntmps6
    go_wp2
    go_ret3
    exact ⟨_, rfl, ⟨rfl, .inl ⟨rfl, rfl⟩⟩, Below.refl _ _⟩
  · have hl : l.length ≤ 16384 := by omega
    have hA := allP_goX l hl
    generalize allP l = A at *
    obtain ⟨i0, hi0, hz0, hz1, hz2⟩ := info_parts info29
    go_enter Tryd.func6, Tryd.ntmps6
    go_wp2
    go_loopg [2, 3, 4, 5, 6] (l.length + 1) (fun gf s2 s3 s4 s5 s6 wx => ∃ (p : Nat) (d : List Tok), s2 = .slice none 0 0 ∧ s3 = .int .i64 0 ∧ s4 = .int .i64 0 ∧ s6 = .int .i64 (p : Int) ∧ p ≤ l.length ∧ l.length + 1 ≤ p + gf ∧ d.length ≤ p ∧ wx.ownsRow w.heap.size 41 4 s5 d.length (tokC d) ∧ Below w.heap.size w wx ∧ Hid (A = (goX p (l.drop p)).pre d))
    case atStart => exact ⟨0, [], rfl, rfl, rfl, rfl, by omega, by omega, by simp, ⟨rfl, .inl ⟨rfl, rfl⟩⟩, Below.refl _ _, by rw [pre_nil]; exact hA⟩
    case round =>
      obtain ⟨p, d, rfl, rfl, rfl, rfl, hp, hp2, hdp, hown, hbw, HA⟩ := hrel
      clear hA
      have hA := HA.out
      have hsk := skip_le (l.drop p)
      rw [List.length_drop] at hsk
      have BL := fun W => blanks_any (l.drop p) (by rw [List.length_drop]; omega) W
      have S1 := slice_l l p hp
      have S2 := slice_lz l (p + skip (l.drop p)) (by omega) ((p : Int) + (skip (l.drop p) : Int)) (by simp)
      have hdd : (l.drop p).drop (skip (l.drop p)) = l.drop (p + skip (l.drop p)) := by rw [List.drop_drop]
      obtain ⟨r, hr⟩ : ∃ r, firstP ((l.drop p).drop (skip (l.drop p))) = r := ⟨_, rfl⟩
      have FI := fun W V => first_any (l.drop (p + skip (l.drop p))) (by rw [List.length_drop]; omega) W V r (by rw [← hdd]; exact hr)
      have g1 := goX_bad p (l.drop p) r.e (by rw [hr])
      have g2 := goX_end p (l.drop p)
      have g3 := goX_step p (l.drop p) r hr
      have g4 : r.e = 0 → r.k = 0 → r.t = [] ∧ r.n = 0 := fun a b => by
        have : (l.drop p).drop (skip (l.drop p)) = [] := (first_end (by rw [hr]; exact a)).1 (by rw [hr]; exact b)
        rw [← hr, this]; exact ⟨rfl, rfl⟩
      rw [hr] at g2
      rw [List.length_drop, List.drop_drop] at g3
      obtain ⟨b, hb⟩ : ∃ b, skip (l.drop p) = b := ⟨_, rfl⟩
      rw [hb] at g1 g2 g3 BL S2 FI hsk
      clear hb hdd hr HA
      have VW := V.below hbw V.big2
      have hbs := hbw.size
      have hown' := hown
      have BL : Hid (∀ W, Calls Tryd.prog 12 #[.string (bs (l.drop p))] W fun e w' => e = .returned (.int .i64 (b : Int)) ∧ Below W.heap.size W w') := BL
      by_cases he : r.e = 0
      · by_cases hk : r.k = 0
        · rw [g2 he hk] at hA
          have hr0 : r.t = [] ∧ r.n = 0 := g4 he hk
          have HA : Hid (A = ⟨d ++ [⟨0, [], 0, p + b⟩], 0, 0⟩) := hA
          have ne : (r.e != 0) = false := by rw [he]; rfl
          clear hA g1 g2 g3 g4 ne
          obtain ⟨k, t, n, len, e⟩ := r
          obtain ⟨rfl, rfl⟩ : t = [] ∧ n = 0 := hr0
          obtain rfl : k = 0 := hk
          obtain rfl : e = 0 := he
          (try clear hr0 hk he)
          go_wp2_with (first | (go_at_call 12; refine (BL.out _).mono ?_; rintro e w1 ⟨rfl, hb1⟩) | (go_at_call 13; refine (FI _ (VW.call hb1)).mono ?_; rintro e w2 ⟨rfl, hb2⟩) | (at_builtin; refine wpList_append_own _ rfl _ _ 24 rfl w.heap.size 41 i0 (.agg #[.int .i64 0, .string ⟨#[]⟩, .int .i64 0, .int .i64 0]) 4 40 Tryd.underlying24 hi0 hz0 hz1 hz2 rfl (by decide) _ d.length _ rfl (((own_call (own_call hown hb1) hb2).alloc _).alloc _) ⟨w2.heap.size + 1, 0, none⟩ 1 1 (Tk.mk 0 (bs []) 0 ((p : Int) + (b : Int))).cells.toList rfl rfl (new_tok _ _ _ _ (by simp)) (Tk.one _) (by unfold maxLen; omega) (by omega) (by simp; have := hb1.size; have := hb2.size; omega) ?_; intro v3 w3 hown3 hgrow3 hnil3; obtain ⟨hcl, hbl3⟩ := app_aft (own_call (own_call hown hb1) hb2) (Below.call (Below.call hbw hb1 (Nat.le_refl _)) hb2 (Nat.le_refl _)) hgrow3))
          go_ret3
          refine ⟨v3, by rw [HA.out]; rfl, ?_, hbl3⟩
          rw [HA.out, List.length_append, tokC_app, tokC_one]
          have ec : (Tok.tk ⟨0, [], 0, p + b⟩).cells = (Tk.mk 0 (bs []) 0 ((p : Int) + (b : Int))).cells := by simp [Tok.tk]
          rw [ec]
          exact hown3
        · obtain ⟨q1, q2, q3⟩ := g3 he hk
          rw [q1, pre_pre] at hA
          have HA : Hid (A = (goX (p + b + r.len) (l.drop (p + (b + r.len)))).pre (d ++ [⟨r.k, r.t, r.n, p + b⟩])) := hA
          have ne : (r.e != 0) = false := by rw [he]; rfl
          have ke : (r.k == 0) = false := by simpa using hk
          obtain ⟨g', rfl⟩ : ∃ g', gk = g' + 1 := ⟨gk - 1, by omega⟩
          clear hA g1 g2 g3 g4 q1
          go_wp2_with (first | (go_at_call 12; refine (BL.out _).mono ?_; rintro e w1 ⟨rfl, hb1⟩) | (go_at_call 13; refine (FI _ (VW.call hb1)).mono ?_; rintro e w2 ⟨rfl, hb2⟩) | (at_builtin; refine wpList_append_own _ rfl _ _ 24 rfl w.heap.size 41 i0 (.agg #[.int .i64 0, .string ⟨#[]⟩, .int .i64 0, .int .i64 0]) 4 40 Tryd.underlying24 hi0 hz0 hz1 hz2 rfl (by decide) _ d.length _ rfl (((own_call (own_call hown hb1) hb2).alloc _).alloc _) ⟨w2.heap.size + 1, 0, none⟩ 1 1 (Tk.mk r.k (bs r.t) r.n ((p : Int) + (b : Int))).cells.toList rfl rfl (new_tok _ _ _ _ (by simp)) (Tk.one _) (by unfold maxLen; omega) (by omega) (by simp; have := hb1.size; have := hb2.size; omega) ?_; intro v3 w3 hown3 hgrow3 hnil3; obtain ⟨hcl, hbl3⟩ := app_aft (own_call (own_call hown hb1) hb2) (Below.call (Below.call hbw hb1 (Nat.le_refl _)) hb2 (Nat.le_refl _)) hgrow3))
          go_roundg g'
          case measure => omega
          case rel =>
            refine ⟨p + b + r.len, d ++ [⟨r.k, r.t, r.n, p + b⟩], rfl, rfl, rfl, by simp, by omega, by omega, by simp; omega, ?_, hbl3, ?_⟩
            · rw [List.length_append, tokC_app, tokC_one]
              have ec : (Tok.tk ⟨r.k, r.t, r.n, p + b⟩).cells = (Tk.mk r.k (bs r.t) r.n ((p : Int) + (b : Int))).cells := by simp [Tok.tk]
              rw [ec]
              exact hown3
            · rw [Nat.add_assoc] at HA ⊢; exact HA
      · rw [g1 he] at hA
        have HA : Hid (A = ⟨[], p + b, r.e⟩) := hA.trans (by unfold Al.pre; rw [if_neg he])
        have ne : (r.e != 0) = true := by simpa using he
        clear hA g1 g2 g3
        go_wp2_with (first | (go_at_call 12; refine (BL.out _).mono ?_; rintro e w1 ⟨rfl, hb1⟩) | (go_at_call 13; refine (FI _ (VW.call hb1)).mono ?_; rintro e w2 ⟨rfl, hb2⟩))
        go_ret3
        refine ⟨.slice none 0 0, by rw [HA.out]; simp, ?_, ?_⟩
        · rw [HA.out]; exact ⟨rfl, .inl ⟨rfl, rfl⟩⟩
        · exact (Below.call (Below.call hbw hb1 (Nat.le_refl _)) hb2 (Nat.le_refl _)).alloc (by have := hb1.size; have := hb2.size; omega) _
end Go.Proofs.YtllhcjmabhempaaDoor
