/-
  The walk of the law ScanReads: it returns true.
-/
import Derived.Test.YtphogfomlmjeiaaDoorRf7
import Derived.Test.YtphogfomlmjeiaaDoorAheW
import Derived.Test.YtphogfomlmjeiaaDoorDr
namespace Go.Proofs.YtphogfomlmjeiaaDoor
set_option linter.unusedVariables false
set_option linter.unusedSimpArgs false
open Go.ChangeShapes Go.WideShapes Go.ChangeAt Go.RowKit
attribute [local go_sem ↓] loadTk_seal storeTk_seal loadKeys_seal loadSigns_seal
attribute [local go_sem] loadTk_run storeTk_run rowAt_at rowAt_old rowAt_drew rowAt_drewN roomTk_new roomAt_old roomAt_drew roomAt_drewN putTk_new Tk.fold putRow_past rowTk_put size_put putRow_drew putRow_drewN alloc_drewN setCell_drewN Tk.at0 Tk.at1 Tk.at2 Tk.at3 Tk.size Tk.set0 Tk.set1 Tk.set2 Tk.set3 Tk.ne rowAt_set rowAt_far roomAt_far
attribute [local go_sem ↓] eqlTk_seal neqTk_seal appU_seal
attribute [local go_sem] bld_fold

/-- The token that is written over others. -/
def m3 : Tk := ⟨-3, ⟨#[]⟩, 0, 0⟩
def mins : Nat → List Value
  | 0 => []
  | n + 1 => mins n ++ m3.cells.toList
theorem mins_len : ∀ n, (mins n).length = n * 4
  | 0 => rfl
  | n + 1 => by rw [mins, List.length_append, mins_len n, Array.length_toList, Tk.size]; omega
theorem mins_zero : ∀ n, (mins (n + 1))[0]? = some (.int .i64 (-3))
  | 0 => rfl
  | n + 1 => by rw [mins, List.getElem?_append_left (by rw [mins_len]; omega)]; exact mins_zero n
/-- A row of so many cells, whose first tokens are written over. -/
def Over (w : World) (g cap j : Nat) : Prop := ∃ cur : Array Value, w.heap[g]? = some (.cells cur 29 (0, 0)) ∧ cur.size = cap * 4 ∧ cur.toList.take (j * 4) = mins j
theorem putList_toList (vs : List Value) (o : Nat) (Y : Array Value) (h : o + vs.length ≤ Y.size) : (putList Y o vs).toList.take (o + vs.length) = Y.toList.take o ++ vs := by
  apply List.ext_getElem?
  intro k
  rw [List.getElem?_take]
  by_cases hk : k < o + vs.length
  · rw [if_pos hk, Array.getElem?_toList, putList_at _ _ _ _ (by omega)]
    by_cases ho : o ≤ k
    · rw [if_pos ⟨ho, hk⟩, List.getElem?_append_right (by rw [List.length_take, Array.length_toList]; omega), List.length_take, Array.length_toList, Nat.min_eq_left (by omega)]
    · rw [if_neg (by omega), List.getElem?_append_left (by rw [List.length_take, Array.length_toList]; omega), List.getElem?_take, if_pos (by omega), Array.getElem?_toList]
  · rw [if_neg hk, List.getElem?_eq_none (by rw [List.length_append, List.length_take, Array.length_toList]; omega)]
theorem Over.store {w : World} {g cap j : Nat} (h : Over w g cap j) (hj : j < cap) : (storeTk ⟨g, j * 4, none⟩ (.agg m3.cells)).run Tryd.prog w = .ok () (w.setCells g (j * 4) m3.cells.toList) ∧ Over (w.setCells g (j * 4) m3.cells.toList) g cap (j + 1) := by
  obtain ⟨cur, h1, h2, h3⟩ := h
  have hth : w.there g (j * 4) 4 := fun k hk => by
    refine ⟨?_, ?_⟩
    · rw [show w.cell? ⟨g, j * 4 + k, none⟩ = cur[j * 4 + k]? by simp [World.cell?, h1], Array.getElem?_eq_getElem (by omega)]; rfl
    · simp [World.frozen?, h1]
  refine ⟨run_storeVar_mid w g (j * 4) 29 m3.cells hth Tryd.sizeTk (by simp [Tk.cells, m3, Value.oneCell']), ⟨_, setCells_heap _ _ _ _ h1, by rw [putList_size, h2], ?_⟩⟩
  have hl : m3.cells.toList.length = 4 := rfl
  have := putList_toList m3.cells.toList (j * 4) cur (by rw [hl]; omega)
  rw [hl] at this
  rw [show (j + 1) * 4 = j * 4 + 4 by omega, this, h3, mins]
theorem Over.own {w : World} {g cap n B : Nat} (h : Over w g cap n) (hB : B ≤ g) (hn : n ≤ cap) (hc : cap ≤ maxLen) : w.ownsRow B 29 4 (.slice (some ⟨g, 0, none⟩) n cap) n (mins n) := by
  obtain ⟨cur, h1, h2, h3⟩ := h
  exact ⟨mins_len n, .inr ⟨g, cap, cur, rfl, hB, h1, hn, hc, h2, h3⟩⟩
theorem TkAt.set {w : World} {b o : Nat} {c : Tk} (h : TkAt w b o c) (g k : Nat) (vs : List Value) (hne : b ≠ g) : TkAt (w.setCells g k vs) b o c := fun j v hv => by
  rw [World.cell?_setCells_out g vs k w ⟨b, o + j, none⟩ (fun e => absurd e hne)]; exact h j v hv
/-- Two rows of the same tokens, and a row that is neither of them. -/
structure Kept (w : World) (gk gw : Nat) (d : List Tok) (v : Value) : Prop where
  one : ∀ i (h : i < d.length), TkAt w gk (i * 4) d[i].tk
  two : ∀ i (h : i < d.length), TkAt w gw (i * 4) d[i].tk
  far : v.ownBlock ≠ some gk ∧ v.ownBlock ≠ some gw
theorem Kept.append {w w' : World} {gk gw : Nat} {d : List Tok} {v v' : Value} {B n : Nat} {X : Obj} (h : Kept w gk gw d v) (hd : 0 < d.length) (hk : ∀ x ∈ d, 0 ≤ x.k) (hg : (w.alloc X).grownBy w' v.ownBlock) (ho : w'.ownsRow B 29 4 v' (n + 1) (mins (n + 1))) : Kept w' gk gw d v' := by
  have mv : ∀ g, v.ownBlock ≠ some g → ∀ i (hi : i < d.length), TkAt w g (i * 4) d[i].tk → TkAt w' g (i * 4) d[i].tk := fun g hne i hi t j u hu => by
    have h1 := t j u hu
    have hlt := t.lt
    refine hg.cell ?_ (fun e => hne e.symm)
    rw [World.cell?_alloc_old _ _ _ (by show g ≠ _; omega)]; exact h1
  have o1 := fun i hi => mv gk h.far.1 i hi (h.one i hi)
  have o2 := fun i hi => mv gw h.far.2 i hi (h.two i hi)
  have key : ∀ g, TkAt w' g (0 * 4) d[0].tk → v'.ownBlock ≠ some g := fun g t e => by
    rcases ho.2 with ⟨_, h0⟩ | ⟨b, cap, cur, rfl, hb, hgc, hc, _, hs, ht⟩
    · omega
    · simp only [Value.ownBlock, Option.some.injEq] at e
      subst e
      have c0 := t 0 _ (Tk.at0 _)
      rw [show w'.cell? ⟨b, 0 * 4 + 0, none⟩ = cur[0]? by simp [World.cell?, hgc]] at c0
      have m0 := mins_zero n
      rw [← ht, List.getElem?_take, if_pos (by omega), Array.getElem?_toList, c0] at m0
      have := hk d[0] (List.getElem_mem _)
      simp only [Option.some.injEq, Value.int.injEq, true_and] at m0
      have e2 : d[0].tk.k = d[0].k := rfl
      omega
  exact ⟨o1, o2, key gk (o1 0 hd), key gw (o2 0 hd)⟩
theorem Kept.alloc {w : World} {gk gw : Nat} {d : List Tok} {v : Value} (h : Kept w gk gw d v) (m : Nat) : Kept (w.drewN m) gk gw d v := ⟨fun i hi => (h.one i hi).drewN m, fun i hi => (h.two i hi).drewN m, h.far⟩
theorem goX_kinds : ∀ (n p : Nat) (l : Bs), l.length ≤ n → ∀ x ∈ (goX p l).ts, 0 ≤ x.k := by
  intro n
  induction n with
  | zero =>
    intro p l hl x hx
    have : l = [] := List.eq_nil_of_length_eq_zero (by omega)
    subst this
    rw [goX_end p [] rfl rfl] at hx
    simp at hx; rw [hx]; exact Int.le_refl _
  | succ n ih =>
    intro p l hl x hx
    obtain ⟨r, hr⟩ : ∃ r, firstP (l.drop (skip l)) = r := ⟨_, rfl⟩
    by_cases he : r.e = 0
    · by_cases hk : r.k = 0
      · rw [goX_end p l (by rw [hr]; exact he) (by rw [hr]; exact hk)] at hx
        simp at hx; rw [hx]; exact Int.le_refl _
      · obtain ⟨g, g2, g3⟩ := goX_step p l r hr he hk
        have hne : l.drop (skip l) ≠ [] := fun h => hk (by rw [← hr]; exact (first_end (by rw [hr]; exact he)).2 h)
        obtain ⟨c, t, hd⟩ : ∃ c t, l.drop (skip l) = c :: t := by
          cases hd : l.drop (skip l) with
          | nil => exact absurd hd hne
          | cons c r => exact ⟨c, r, rfl⟩
        have hk1 := (first_len (c := c) (r := t) (by rw [← hd, hr]; exact he)).2.2.1
        rw [← hd, hr] at hk1
        rw [g] at hx; unfold Al.pre at hx; split at hx
        · rcases List.mem_append.1 hx with h | h
          · simp at h; rw [h]; show 0 ≤ r.k; omega
          · exact ih _ _ (by rw [List.length_drop]; omega) x h
        · exact ih _ _ (by rw [List.length_drop]; omega) x hx
    · rw [goX_bad p l r.e (by rw [hr]) he] at hx
      simp at hx
/-- All, where tokens are told, and where the row lies. -/
theorem all_lies (l : Bs) (d : List Tok) (h : allP l = ⟨d, 0, 0⟩) (hd : d ≠ []) (w : World) (V : Vars w) : Calls Tryd.prog 8 #[.string (bs l)] w fun e w' => ∃ g c, e = .returned (.tuple #[.slice (some ⟨g, 0, none⟩) d.length c, .int .i64 0, .int .i64 0]) ∧ d.length ≤ c ∧ c ≤ maxLen ∧ w.heap.size ≤ g ∧ g < w'.heap.size ∧ Over w' g c 0 ∧ (∀ i (hi : i < d.length), TkAt w' g (i * 4) d[i].tk) ∧ Below w.heap.size w w' := by
  have hA := all_any l w V
  rw [h] at hA
  refine hA.mono fun e w' ⟨v, he, ho, hb⟩ => ?_
  obtain ⟨g, c, rfl, h1, h2, h3, ht⟩ := own_at2 ho hd
  rcases ho.2 with ⟨h0, _⟩ | ⟨g', c', cur, hv, hb', hg, hc, hm, hs, _⟩
  · cases h0
  · cases hv
    exact ⟨g, c, he, h1, hm, h2, h3, ⟨cur, hg, hs, rfl⟩, ht, hb⟩
theorem rall_lies (l : Bs) (d : List Tok) (h : allP l = ⟨d, 0, 0⟩) (hd : d ≠ []) (w : World) : Calls Tryd.prog 9 #[.string (bs l)] w fun e w' => ∃ g c, e = .returned (.tuple #[.slice (some ⟨g, 0, none⟩) d.length c, .int .i64 0, .int .i64 0]) ∧ w.heap.size ≤ g ∧ g < w'.heap.size ∧ (∀ i (hi : i < d.length), TkAt w' g (i * 4) d[i].tk) ∧ Below w.heap.size w w' := by
  have hA := rall_any l w
  rw [h] at hA
  refine hA.mono fun e w' ⟨v, he, ho, hb⟩ => ?_
  obtain ⟨g, c, rfl, h1, h2, h3, ht⟩ := own_at2 ho hd
  exact ⟨g, c, he, h2, h3, ht, hb⟩
theorem own_empty {w : World} {B e size : Nat} {v : Value} {xs : List Value} (h : w.ownsRow B e size v 0 xs) : ∃ a c, v = .slice a 0 c := by
  rcases h.2 with ⟨rfl, _⟩ | ⟨g, cap, cur, rfl, _⟩
  · exact ⟨none, 0, rfl⟩
  · exact ⟨_, cap, rfl⟩
theorem all_fails (l : Bs) (p : Nat) (x : Int) (h : allP l = ⟨[], p, x⟩) (w : World) (V : Vars w) : Calls Tryd.prog 8 #[.string (bs l)] w fun e w' => ∃ a c, e = .returned (.tuple #[.slice a 0 c, .int .i64 (p : Int), .int .i64 x]) ∧ w'.ownsRow w.heap.size 29 4 (.slice a 0 c) 0 [] ∧ Below w.heap.size w w' := by
  have hA := all_any l w V
  rw [h] at hA
  refine hA.mono fun e w' ⟨v, he, ho, hb⟩ => ?_
  obtain ⟨a, c, rfl⟩ := own_empty ho
  exact ⟨a, c, he, ho, hb⟩
theorem rall_fails (l : Bs) (p : Nat) (x : Int) (h : allP l = ⟨[], p, x⟩) (w : World) : Calls Tryd.prog 9 #[.string (bs l)] w fun e w' => ∃ a c, e = .returned (.tuple #[.slice a 0 c, .int .i64 (p : Int), .int .i64 x]) ∧ Below w.heap.size w w' := by
  have hA := rall_any l w
  rw [h] at hA
  refine hA.mono fun e w' ⟨v, he, ho, hb⟩ => ?_
  obtain ⟨a, c, rfl⟩ := own_empty ho
  exact ⟨a, c, he, hb⟩
theorem allP_cases (l : Bs) : (∃ p x, allP l = ⟨[], p, x⟩ ∧ x ≠ 0) ∨ ∃ d, allP l = ⟨d, 0, 0⟩ ∧ d ≠ [] ∧ d.length ≤ 16385 ∧ ∀ x ∈ d, 0 ≤ x.k := by
  by_cases hl : l.length ≤ 16384
  · have hA := allP_goX l hl
    by_cases he : (goX 0 l).e = 0
    · right
      have G := ahead_good l.length 0 l (Nat.le_refl _) he
      have hc := goX_count l.length 0 l (Nat.le_refl _)
      have hk := goX_kinds l.length 0 l (Nat.le_refl _)
      obtain ⟨d, hd⟩ := G.last
      refine ⟨(goX 0 l).ts, ?_, by rw [hd]; simp, by omega, hk⟩
      have hz := G.zero
      rw [hA]; cases hg : goX 0 l with
      | mk ts p e => rw [hg] at hz he; simp only at hz he ⊢; rw [hz, he]
    · left
      obtain ⟨q, d, h1, h2, _, _⟩ := ahead_bad l.length 0 l (Nat.le_refl _) he
      refine ⟨(goX 0 l).p, (goX 0 l).e, ?_, he⟩
      rw [hA]; cases hg : goX 0 l with
      | mk ts p e => rw [hg] at h1; simp only at h1 ⊢; rw [h1]
  · left
    exact ⟨0, 80, by unfold allP; rw [if_pos (by omega)], by omega⟩
theorem same_of {d : List Tok} {g g' c c' : Nat} (hc : d.length ≤ 100000) (w : World) (h : ∀ j (hj : j < d.length), TkAt w g (j * 4) d[j].tk) (h' : ∀ j (hj : j < d.length), TkAt w g' (j * 4) d[j].tk) :
    Calls Tryd.prog 10 #[.slice (some ⟨g, 0, none⟩) d.length c, .slice (some ⟨g', 0, none⟩) d.length c'] w fun e w' => e = .returned (.bool true) ∧ ∃ n, w' = w.drewN n :=
  same_any d (some ⟨g, 0, none⟩) (some ⟨g', 0, none⟩) c c' w ⟨by omega, fun j hj => ⟨g, 0, rfl, by rw [Nat.zero_add]; exact h j hj⟩⟩ ⟨by omega, fun j hj => ⟨g', 0, rfl, by rw [Nat.zero_add]; exact h' j hj⟩⟩
theorem same_none (a a' : Option Addr) (c c' : Nat) (w : World) : Calls Tryd.prog 10 #[.slice a 0 c, .slice a' 0 c'] w fun e w' => e = .returned (.bool true) ∧ ∃ n, w' = w.drewN n :=
  same_any [] a a' c c' w ⟨by simp, fun j hj => by simp at hj⟩ ⟨by simp, fun j hj => by simp at hj⟩
/-- One more token behind a row of the call's own. -/
theorem app_min {wr : World} {B n : Nat} {v : Value} (ho : wr.ownsRow B 29 4 v n (mins n)) (hn : n ≤ 100000) (hB : B ≤ wr.heap.size) :
    ∃ v3 w3, (appU #[23, 23] 23 #[v, .slice (some ⟨wr.heap.size, 0, none⟩) 1 1]).run Tryd.prog (wr.alloc (.cells (Tk.mk (-3) ⟨#[]⟩ 0 0).cells 29)) = .ok v3 w3 ∧ w3.ownsRow B 29 4 v3 (n + 1) (mins (n + 1)) ∧ (wr.alloc (.cells (Tk.mk (-3) ⟨#[]⟩ 0 0).cells 29)).grownBy w3 v.ownBlock := by
  obtain ⟨i0, hi0, hz0, hz1, hz2⟩ := info_parts info29
  obtain ⟨v3, w3, hrun, hown3, hgrow3, _⟩ := run_append_own (P := Tryd.prog) (w := wr.alloc (.cells (Tk.mk (-3) ⟨#[]⟩ 0 0).cells 29)) B 23 23 29 i0 (.agg #[.int .i64 0, .string ⟨#[]⟩, .int .i64 0, .int .i64 0]) 4 40 Tryd.underlying23 hi0 hz0 hz1 hz2 rfl (by decide) _ n _ (ho.alloc _) ⟨wr.heap.size, 0, none⟩ 1 1 (Tk.mk (-3) ⟨#[]⟩ 0 0).cells.toList rfl (new_tok _ _ _ _ rfl) (Tk.one _) (by unfold maxLen; omega) (by omega) (by simp; omega)
  exact ⟨v3, w3, hrun, hown3, hgrow3⟩
theorem app_below {w wr w3 : World} {B n : Nat} {v : Value} {X : Obj} {xs : List Value} (hbl : Below w.heap.size w wr) (ho : wr.ownsRow w.heap.size 29 4 v n xs) (hg : (wr.alloc X).grownBy w3 v.ownBlock) : Below w.heap.size w w3 := by
  have := hbl.size
  exact (hbl.alloc (by omega) _).grown hg (by simp; omega) (fun j hj => (own_lt ho _ hj).1)
set_option maxHeartbeats 4000000 in
set_option maxRecDepth 20000 in
theorem reads_any (a : Option Addr) (len cap : Nat) (f : Nat → Bs) (w : World) (V : Vars w) (h : RdS w a len f) :
    Calls Tryd.prog 3 #[.slice a len cap] w fun e w' => e = .returned (.bool true) ∧ Below w.heap.size w w' := by
  have HV : Hid (Vars w) := V
  have hm := h.1
  have HC : Hid (∀ i, i < len → ∃ b off, a = some ⟨b, off, none⟩ ∧ w.cell? ⟨b, off + i, none⟩ = some (.string (bs (f i))) ∧ (f i).length ≤ 9223372036854775807) := h.2
  clear V h
  go_enter Tryd.func3, Tryd.ntmps3
  go_wp2
  go_loopw [2, 3] (fun s2 x wr => ∃ k : Nat, s2 = .bool false ∧ k ≤ len ∧ x = .int .i64 k ∧ Below w.heap.size w wr) (fun _ x _ => len - (intOf x).toNat)
  case atStart => exact ⟨0, rfl, by omega, rfl, Below.refl _ _⟩
  case round =>
    obtain ⟨k, rfl, hk, rfl, hbel⟩ := hrel
    by_cases hlt : k < len
    · have hd0 : decide ((k : Int) < len) = true := by simp; omega
      obtain ⟨b, off, rfl, hc, x0⟩ := HC.out k hlt
      have c0 : wr.cell? ⟨b, off + k, none⟩ = some (.string (bs (f k))) := (hbel.cell (p := ⟨b, _, none⟩) (World.block_lt_of_cell? w _ hc)).trans hc
      obtain ⟨wo, hwo⟩ : ∃ wo, wo = wr := ⟨_, rfl⟩
      subst hwo
      have VR : Vars wo := HV.out.below hbel HV.out.big2
      have hsz0 := hbel.size
      rcases allP_cases (f k) with ⟨P, x, hA, hx⟩ | ⟨d, hA, hd, hdl, hkinds⟩
      · have AL : Hid (∀ X, Vars X → Calls Tryd.prog 8 #[.string (bs (f k))] X _) := fun X VX => all_fails (f k) P x hA X VX
        have RA : Hid (∀ X, Calls Tryd.prog 9 #[.string (bs (f k))] X _) := fun X => rall_fails (f k) P x hA X
        generalize bs (f k) = src at *
        clear hc x0 hA hx HC
        go_wp2_with (first
          | (go_at_call 8; have hx := hb1; clear hx; refine (AL.out _ (VR.call hb1)).mono ?_; rintro e w2 ⟨a2, c2, rfl, _, hb2⟩; have cc2 : w2.cell? ⟨b, off + k, none⟩ = some (.string src) := (hb2.cell (p := ⟨b, _, none⟩) (World.block_lt_of_cell? _ _ cc1)).trans cc1)
          | (go_at_call 8; refine (AL.out _ VR).mono ?_; rintro e w1 ⟨a1, c1, rfl, ow1, hb1⟩; have cc1 : w1.cell? ⟨b, off + k, none⟩ = some (.string src) := (hb1.cell (p := ⟨b, _, none⟩) (World.block_lt_of_cell? _ _ c0)).trans c0)
          | (go_at_call 9; refine (RA.out _).mono ?_; rintro e w3 ⟨a3, c3, rfl, hb3⟩; skip)
          | (go_at_call 10; refine (same_none _ _ _ _ _).mono ?_; rintro e W' ⟨rfl, n1, hw⟩; rw [hw]; clear hw))
        have hB3 : Below w.heap.size w w3 := Below.call (Below.call (Below.call hbel hb1 (Nat.le_refl _)) hb2 (Nat.le_refl _)) hb3 (Nat.le_refl _)
        have z1 := hb1.size
        have z2 := hb2.size
        have z3 := hb3.size
        have how0 : (w3.drewN n1).ownsRow w.heap.size 29 4 (.slice a1 0 c1) 0 [] := by
          obtain ⟨h1, h2⟩ := own_call (own_call ow1 hb2) hb3
          exact ⟨h1, h2.imp id fun ⟨g, cap, cur, q1, q2, q3⟩ => ⟨g, cap, cur, q1, by omega, q3⟩⟩
        have hB4 : Below w.heap.size w (w3.drewN n1) := bdrewN hB3 n1
        generalize w3.drewN n1 = w4 at *
        clear AL RA ow1 cc1 cc2 c0 hb1 hb2 hb3 VR
        go_loopg [13] 0 (fun gf s13 wx => s13 = .int .i64 0 ∧ wx = w4)
        case atStart => exact ⟨rfl, rfl⟩
        case round =>
          obtain ⟨rfl, hww⟩ := hrel
          obtain rfl := hww.symm
          go_wp2
          go_loopg [4, 14] 9 (fun gf s4 s14 wx => ∃ j n : Nat, s14 = .int .i64 (j : Int) ∧ j + gf = 9 ∧ n ≤ j ∧ wx.ownsRow w.heap.size 29 4 s4 n (mins n) ∧ Below w.heap.size w wx)
          case atStart => exact ⟨0, 0, rfl, by omega, by omega, how0, hB4⟩
          case round =>
            clear how0 hB3 hB4
            obtain ⟨j, n, rfl, hj, hn, how, hbx⟩ := hrel
            by_cases hj9 : j < 9
            · obtain ⟨g', rfl⟩ : ∃ g', gk = g' + 1 := ⟨gk - 1, by omega⟩
              have e9 : decide ((j : Int) < 9) = true := decide_eq_true (by omega)
              obtain ⟨v3, w5, hrun, ho3, hgr⟩ := app_min how (by omega) (by have := hbx.size; omega)
              go_wp2
              go_roundg g'
              case measure => omega
              case rel => exact ⟨j + 1, n + 1, by simp, by omega, by omega, ho3, app_below (B := w.heap.size) hbx how hgr⟩
            · have e9 : decide ((j : Int) < 9) = false := decide_eq_false (by omega)
              go_wp2_with (go_at_call 10; refine (same_none _ _ _ _ _).mono ?_; rintro e W' ⟨rfl, n2, hw⟩; rw [hw]; clear hw)
              go_roundw
              case rel => exact ⟨k + 1, rfl, by omega, by go_num, bdrewN hbx _⟩
              case measure => simp [intOf]; omega
      · have AL : Hid (∀ X, Vars X → Calls Tryd.prog 8 #[.string (bs (f k))] X _) := fun X VX => all_lies (f k) d hA hd X VX
        have RA : Hid (∀ X, Calls Tryd.prog 9 #[.string (bs (f k))] X _) := fun X => rall_lies (f k) d hA hd X
        have hdp : 0 < d.length := List.length_pos_iff.2 hd
        generalize bs (f k) = src at *
        clear hc x0 hA hd HC
        go_wp2_with (first
          | (go_at_call 8; have hx := hb1; clear hx; refine (AL.out _ (VR.call hb1)).mono ?_; rintro e w2 ⟨g2, c2, rfl, _, _, hg2, hg2', _, t2, hb2⟩; have cc2 : w2.cell? ⟨b, off + k, none⟩ = some (.string src) := (hb2.cell (p := ⟨b, _, none⟩) (World.block_lt_of_cell? _ _ cc1)).trans cc1)
          | (go_at_call 8; refine (AL.out _ VR).mono ?_; rintro e w1 ⟨g1, c1, rfl, hlc, hmc, hg1, hg1', ov1, t1, hb1⟩; have cc1 : w1.cell? ⟨b, off + k, none⟩ = some (.string src) := (hb1.cell (p := ⟨b, _, none⟩) (World.block_lt_of_cell? _ _ c0)).trans c0)
          | (go_at_call 9; refine (RA.out _).mono ?_; rintro e w3 ⟨g3, c3, rfl, hg3, hg3', t3, hb3⟩; have HS : Hid (Calls Tryd.prog 10 #[.slice (some ⟨g1, 0, none⟩) d.length c1, .slice (some ⟨g3, 0, none⟩) d.length c3] w3 _) := same_of (by omega) w3 (fun j hj => ((t1 j hj).below hb2).below hb3) t3)
          | (go_at_call 10; refine HS.out.mono ?_; rintro e W' ⟨rfl, n1, hw⟩; rw [hw]; clear hw))
        have hB3 : Below w.heap.size w w3 := Below.call (Below.call (Below.call hbel hb1 (Nat.le_refl _)) hb2 (Nat.le_refl _)) hb3 (Nat.le_refl _)
        have z1 := hb1.size
        have z2 := hb2.size
        have z3 := hb3.size
        have hov : Over (w3.drewN n1) g1 c1 0 := by
          obtain ⟨cur, h1, h2, h3⟩ := ov1
          exact ⟨cur, (hb3.block g1 (by omega)).trans ((hb2.block g1 hg1').trans h1), h2, h3⟩
        have hke : Kept (w3.drewN n1) g2 g3 d (.slice (some ⟨g1, 0, none⟩) d.length c1) := ⟨fun i hi => ((t2 i hi).below hb3).drewN n1, fun i hi => (t3 i hi).drewN n1, by simp only [Value.ownBlock, ne_eq, Option.some.injEq]; omega, by simp only [Value.ownBlock, ne_eq, Option.some.injEq]; omega⟩
        have hB4 : Below w.heap.size w (w3.drewN n1) := bdrewN hB3 n1
        have hW4 : w3.heap.size ≤ (w3.drewN n1).heap.size := Nat.le_refl _
        have hgB : w.heap.size ≤ g1 := by omega
        generalize w3.drewN n1 = w4 at *
        clear AL RA t1 t2 t3 ov1 cc1 cc2 c0 HS hb1 hb2 hb3 VR
        go_loopg [13] d.length (fun gf s13 wx => ∃ j : Nat, s13 = .int .i64 (j : Int) ∧ j + gf = d.length ∧ Over wx g1 c1 j ∧ Kept wx g2 g3 d (.slice (some ⟨g1, 0, none⟩) d.length c1) ∧ Below w.heap.size w wx)
        case atStart => exact ⟨0, rfl, by omega, hov, hke, hB4⟩
        case round =>
          obtain ⟨j, rfl, hj, hov, hke, hbx⟩ := hrel
          by_cases hjl : j < d.length
          · obtain ⟨g', rfl⟩ : ∃ g', gk = g' + 1 := ⟨gk - 1, by omega⟩
            have e0 : decide ((j : Int) < (d.length : Int)) = true := decide_eq_true (by omega)
            obtain ⟨ST, hov2⟩ := hov.store (by omega)
            have ST : (storeTk ⟨g1, j * 4, none⟩ (.agg (Tk.mk (-3) ⟨#[]⟩ 0 0).cells)).run Tryd.prog wr = .ok () (wr.setCells g1 (j * 4) m3.cells.toList) := ST
            have hbx2 : Below w.heap.size w (wr.setCells g1 (j * 4) m3.cells.toList) := below_setCells g1 hgB _ _ _ hbx
            have hke2 : Kept (wr.setCells g1 (j * 4) m3.cells.toList) g2 g3 d (.slice (some ⟨g1, 0, none⟩) d.length c1) := ⟨fun i hi => (hke.one i hi).set _ _ _ (fun e => hke.far.1 (by rw [e]; rfl)), fun i hi => (hke.two i hi).set _ _ _ (fun e => hke.far.2 (by rw [e]; rfl)), hke.far⟩
            generalize wr.setCells g1 (j * 4) m3.cells.toList = wn at *
            go_wp2
            go_roundg g'
            case measure => omega
            case rel => exact ⟨j + 1, by simp, by omega, hov2, hke2, hbx2⟩
          · obtain rfl : j = d.length := by omega
            have e0 : decide ((d.length : Int) < (d.length : Int)) = false := decide_eq_false (by omega)
            have how : wr.ownsRow w.heap.size 29 4 (.slice (some ⟨g1, 0, none⟩) d.length c1) d.length (mins d.length) := hov.own hgB hlc hmc
            go_wp2
            skip
            go_loopg [4, 14] 9 (fun gf s4 s14 wx => ∃ j n : Nat, s14 = .int .i64 (j : Int) ∧ j + gf = 9 ∧ n ≤ d.length + j ∧ 0 < n ∧ wx.ownsRow w.heap.size 29 4 s4 n (mins n) ∧ Kept wx g2 g3 d s4 ∧ Below w.heap.size w wx)
            case atStart => exact ⟨0, d.length, rfl, by omega, by omega, by omega, how, hke, hbx⟩
            case round =>
              clear hov hke hbx how hB3 hB4
              obtain ⟨j, n, rfl, hj, hn, hn0, how, hke, hbx⟩ := hrel
              by_cases hj9 : j < 9
              · obtain ⟨g', rfl⟩ : ∃ g', gk = g' + 1 := ⟨gk - 1, by omega⟩
                have e9 : decide ((j : Int) < 9) = true := decide_eq_true (by omega)
                obtain ⟨v3, w5, hrun, ho3, hgr⟩ := app_min how (by omega) (by have := hbx.size; omega)
                go_wp2
                go_roundg g'
                case measure => omega
                case rel => exact ⟨j + 1, n + 1, by simp, by omega, by omega, by omega, ho3, hke.append hdp hkinds hgr ho3, app_below (B := w.heap.size) hbx how hgr⟩
              · have e9 : decide ((j : Int) < 9) = false := decide_eq_false (by omega)
                have HS2 : Hid (Calls Tryd.prog 10 #[.slice (some ⟨g2, 0, none⟩) d.length c2, .slice (some ⟨g3, 0, none⟩) d.length c3] wr _) := same_of (by omega) wr hke.one hke.two
                go_wp2_with (go_at_call 10; refine HS2.out.mono ?_; rintro e W' ⟨rfl, n2, hw⟩; rw [hw]; clear hw)
                go_roundw
                case rel => exact ⟨k + 1, rfl, by omega, by go_num, bdrewN hbx _⟩
                case measure => simp [intOf]; omega
    · have hd0 : decide ((k : Int) < len) = false := by simp; omega
      have V2 : Vars wr := HV.out.below hbel HV.out.big2
      clear HC
      go_wp2_with (go_at_call 11; refine (shown_any _ V2).mono ?_; rintro e w1 ⟨rfl, hb1⟩)
      go_ret
      exact ⟨rfl, Below.call hbel hb1 (Nat.le_refl _)⟩
end Go.Proofs.YtphogfomlmjeiaaDoor
