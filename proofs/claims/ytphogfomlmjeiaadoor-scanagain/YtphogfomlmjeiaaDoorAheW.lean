/-
  The walk of the law ScanAhead: it returns true.
-/
import Derived.Test.YtphogfomlmjeiaaDoorAhe
import Derived.Test.YtphogfomlmjeiaaDoorSam
namespace Go.Proofs.YtphogfomlmjeiaaDoor
set_option linter.unusedVariables false
set_option linter.unusedSimpArgs false
open Go.ChangeShapes Go.WideShapes Go.ChangeAt Go.RowKit
attribute [local go_sem ↓] loadTk_seal storeTk_seal loadKeys_seal loadSigns_seal
attribute [local go_sem] loadTk_run storeTk_run rowAt_at rowAt_old rowAt_drew rowAt_drewN roomTk_new roomAt_old roomAt_drew roomAt_drewN putTk_new Tk.fold putRow_past rowTk_put size_put putRow_drew putRow_drewN alloc_drewN setCell_drewN Tk.at0 Tk.at1 Tk.at2 Tk.at3 Tk.size Tk.set0 Tk.set1 Tk.set2 Tk.set3 Tk.ne rowAt_set rowAt_far roomAt_far
attribute [local go_sem ↓] eqlTk_seal neqTk_seal

theorem first_e (l : Bs) : (firstP l).e = 0 ∨ 81 ≤ (firstP l).e := by
  cases l with
  | nil => exact .inl rfl
  | cons c t =>
    simp only [firstP, firstC]
    split
    · right; simp [Rd.bad]
    · split
      · unfold nameP; split
        · left; rfl
        · split
          · left; rfl
          · right; simp [Rd.bad]
      · split
        · unfold numP; split
          · cases valP 16 4294967295 0 (wordL (c :: t)).dropLast <;> simp [numT, Rd.bad]
          · split
            · cases valP 16 255 0 (wordL (c :: t)).dropLast <;> simp [numT, Rd.bad]
            · cases valP 10 2147483647 0 (wordL (c :: t)) <;> simp [numT, Rd.bad]
        · split
          · unfold quotedP; cases quoP 0 (c :: t).tail <;> simp [quoT, Rd.bad]
          · unfold signP; cases signsL.find? (fun s => s.isPrefixOf (c :: t)) <;> simp [signT, Rd.bad]
theorem goX_e : ∀ (n p : Nat) (l : Bs), l.length ≤ n → (goX p l).e = 0 ∨ 81 ≤ (goX p l).e := by
  intro n
  induction n with
  | zero =>
    intro p l hl
    have : l = [] := List.eq_nil_of_length_eq_zero (by omega)
    subst this
    rw [goX_end p [] rfl rfl]; exact .inl rfl
  | succ n ih =>
    intro p l hl
    obtain ⟨r, hr⟩ : ∃ r, firstP (l.drop (skip l)) = r := ⟨_, rfl⟩
    by_cases he : r.e = 0
    · by_cases hk : r.k = 0
      · rw [goX_end p l (by rw [hr]; exact he) (by rw [hr]; exact hk)]; exact .inl rfl
      · obtain ⟨g, g2, g3⟩ := goX_step p l r hr he hk
        have := ih (p + skip l + r.len) (l.drop (skip l + r.len)) (by rw [List.length_drop]; omega)
        rw [g]; unfold Al.pre; split
        · exact .inl (by assumption)
        · exact this
    · rw [goX_bad p l r.e (by rw [hr]) he]
      have := first_e (l.drop (skip l))
      rw [hr] at this
      exact this
theorem goX_count : ∀ (n p : Nat) (l : Bs), l.length ≤ n → (goX p l).ts.length ≤ l.length + 1 := by
  intro n
  induction n with
  | zero =>
    intro p l hl
    have : l = [] := List.eq_nil_of_length_eq_zero (by omega)
    subst this
    rw [goX_end p [] rfl rfl]; simp
  | succ n ih =>
    intro p l hl
    obtain ⟨r, hr⟩ : ∃ r, firstP (l.drop (skip l)) = r := ⟨_, rfl⟩
    by_cases he : r.e = 0
    · by_cases hk : r.k = 0
      · rw [goX_end p l (by rw [hr]; exact he) (by rw [hr]; exact hk)]; simp
      · obtain ⟨g, g2, g3⟩ := goX_step p l r hr he hk
        have := ih (p + skip l + r.len) (l.drop (skip l + r.len)) (by rw [List.length_drop]; omega)
        rw [List.length_drop] at this
        rw [g]; unfold Al.pre; split
        · simp; omega
        · omega
    · rw [goX_bad p l r.e (by rw [hr]) he]; simp
theorem allP_count (l : Bs) : (allP l).ts.length ≤ 16385 := by
  by_cases h : l.length ≤ 16384
  · rw [allP_goX l h]; have := goX_count l.length 0 l (Nat.le_refl _); omega
  · unfold allP; rw [if_pos (by omega)]; simp
/-- A row of tokens of the call's own, where it lies. -/
theorem own_at2 {w : World} {B : Nat} {v : Value} {d : List Tok} (h : w.ownsRow B 29 4 v d.length (tokC d)) (hd : d ≠ []) : ∃ g c, v = .slice (some ⟨g, 0, none⟩) d.length c ∧ d.length ≤ c ∧ B ≤ g ∧ g < w.heap.size ∧ ∀ i (hi : i < d.length), TkAt w g (i * 4) d[i].tk := by
  rcases h.2 with ⟨rfl, h0⟩ | ⟨g, cap, cur, rfl, hb, hg, hc, _, hs, ht⟩
  · exact absurd (List.eq_nil_of_length_eq_zero h0) hd
  · refine ⟨g, cap, rfl, hc, hb, (Array.getElem?_eq_some_iff.1 hg).1, fun i hi j u hu => ?_⟩
    have hj : j < 4 := by have := (Array.getElem?_eq_some_iff.1 hu).1; rwa [Tk.size] at this
    have h1 := tokC_at d i j hi hj
    rw [hu, ← ht, List.getElem?_take, if_pos (by omega)] at h1
    rw [show w.cell? ⟨g, i * 4 + j, none⟩ = cur[i * 4 + j]? by simp [World.cell?, hg]]
    simpa using h1
/-- All, where tokens are told. -/
theorem all_row (l : Bs) (d : List Tok) (h : allP l = ⟨d, 0, 0⟩) (hd : d ≠ []) (w : World) (V : Vars w) : Calls Tryd.prog 8 #[.string (bs l)] w fun e w' => ∃ g c, e = .returned (.tuple #[.slice (some ⟨g, 0, none⟩) d.length c, .int .i64 0, .int .i64 0]) ∧ d.length ≤ c ∧ w.heap.size ≤ g ∧ g < w'.heap.size ∧ (∀ i (hi : i < d.length), TkAt w' g (i * 4) d[i].tk) ∧ Below w.heap.size w w' := by
  have hA := all_any l w V
  rw [h] at hA
  refine hA.mono fun e w' ⟨v, he, ho, hb⟩ => ?_
  obtain ⟨g, c, rfl, h1, h2, h3, ht⟩ := own_at2 ho hd
  exact ⟨g, c, he, h1, h2, h3, ht, hb⟩
theorem all_none (l : Bs) (p : Nat) (x : Int) (h : allP l = ⟨[], p, x⟩) (w : World) (V : Vars w) : Calls Tryd.prog 8 #[.string (bs l)] w fun e w' => ∃ a c, e = .returned (.tuple #[.slice a 0 c, .int .i64 (p : Int), .int .i64 x]) ∧ Below w.heap.size w w' := by
  have hA := all_any l w V
  rw [h] at hA
  refine hA.mono fun e w' ⟨v, he, ho, hb⟩ => ?_
  obtain ⟨a, c, rfl, _⟩ := own_rdt ho (by simp)
  exact ⟨a, c, he, hb⟩
set_option maxHeartbeats 4000000 in
set_option maxRecDepth 20000 in
theorem ahead_long (l : Bs) (hl : 16384 < l.length) (w : World) (V : Vars w) : Calls Tryd.prog 7 #[.string (bs l)] w fun e w' => e = .returned (.bool true) ∧ Below w.heap.size w w' := by
  have hz := bs_size l
  have AL : Hid (∀ X, Vars X → Calls Tryd.prog 8 #[.string (bs l)] X _) := fun X VX => all_none l 0 80 (by unfold allP; rw [if_pos hl]) X VX
  have d0 : decide ((16384 : Int) < (l.length : Int)) = true := by simp; omega
  go_enter Tryd.func7, Tryd.ntmps7
  go_wp2_with (first | (go_at_call 11; refine (shown_any _ (V.call hb1)).mono ?_; rintro e w2 ⟨rfl, hb2⟩) | (go_at_call 8; refine (AL.out _ V).mono ?_; rintro e w1 ⟨a1, c1, rfl, hb1⟩))
  go_ret
  exact ⟨rfl, Below.call hb1 hb2 (Nat.le_refl _)⟩
set_option maxHeartbeats 4000000 in
set_option maxRecDepth 20000 in
theorem ahead_fault (l : Bs) (hl : l.length ≤ 16384) (he : (allP l).e ≠ 0) (w : World) (V : Vars w) : Calls Tryd.prog 7 #[.string (bs l)] w fun e w' => e = .returned (.bool true) ∧ Below w.heap.size w w' := by
  have hz := bs_size l
  have hA := allP_goX l hl
  rw [hA] at he
  obtain ⟨q, d, h1, h2, h3, h4⟩ := ahead_bad l.length 0 l (Nat.le_refl _) he
  have h5 := goX_e l.length 0 l (Nat.le_refl _)
  have hA' : allP l = ⟨[], q, (goX 0 l).e⟩ := by
    rw [hA]; cases hg : goX 0 l with
    | mk ts p e => rw [hg] at h1 h2; simp only at h1 h2 ⊢; rw [h1, h2]; simp
  generalize (goX 0 l).e = x at *
  have AL : Hid (∀ X, Vars X → Calls Tryd.prog 8 #[.string (bs l)] X _) := fun X VX => all_none l q x hA' X VX
  have hA2 : allP (l.take q) = ⟨d ++ [⟨0, [], 0, 0 + q⟩], 0, 0⟩ := by rw [allP_goX _ (by rw [List.length_take]; omega)]; exact h4
  have AR : Hid (∀ X, Vars X → Calls Tryd.prog 8 #[.string (bs (l.take q))] X fun e w' => ∃ g c n, e = .returned (.tuple #[.slice (some ⟨g, 0, none⟩) (n + 1) c, .int .i64 0, .int .i64 0]) ∧ n ≤ 100000 ∧ LdTk w' g (n * 4) (Tk.mk 0 ⟨#[]⟩ 0 q) ∧ Below X.heap.size X w') := fun X VX => by
    refine (all_row _ _ hA2 (by simp) X VX).mono fun e w' ⟨g, c, he, hc, _, _, ht, hb⟩ => ?_
    have hlen : (d ++ [(⟨0, [], 0, 0 + q⟩ : Tok)]).length = d.length + 1 := by simp
    have t1 := ht d.length (by rw [hlen]; omega)
    refine ⟨g, c, d.length, by rw [hlen] at he; exact he, ?_, ?_, hb⟩
    · have := allP_count (l.take q)
      rw [hA2] at this
      simp at this; omega
    · have t2 := t1.load
      unfold LdTk
      rw [t2]
      simp [Tok.tk]
      rfl
  have SH := slice_h l q (by omega)
  have x80 : (x == 80) = false := by simp; omega
  have x0 : (x != 0) = true := by simpa using he
  have q0 : decide ((q : Int) < 0) = false := by simp
  have q1 : decide ((l.length : Int) ≤ (q : Int)) = false := by simp; omega
  have EQ := eqlTk_same (Tk.mk 0 ⟨#[]⟩ 0 q) _ rfl
  clear hA hA' hA2 h1 h2 h4 h5 he
  generalize l.take q = l2 at *
  go_enter Tryd.func7, Tryd.ntmps7
  go_wp2_with (first | (go_at_call 11; refine (shown_any _ (V.call hb1)).mono ?_; rintro e w2 ⟨rfl, hb2⟩) | (go_at_call 8; have hx := hb2; clear hx; refine (AR.out _ ((V.call hb1).call hb2)).mono ?_; rintro e w3 ⟨g3, c3, n3, rfl, hn3, t3, hb3⟩; unfold LdTk at t3) | (go_at_call 8; refine (AL.out _ V).mono ?_; rintro e w1 ⟨a1, c1, rfl, hb1⟩))
  go_ret
  exact ⟨rfl, Below.call (Below.call hb1 hb2 (Nat.le_refl _)) hb3 (Nat.le_refl _)⟩
theorem quiet_of2 {P : Program} {f : FuncId} {args : Array Value} {w : World} {a n : Nat} {v : Value}
    (h : Calls P f args (w.drewN (a + n)) fun e w' => e = .returned v ∧ ∃ m, w' = (w.drewN (a + n)).drewN m) : Calls P f args (w.drewN (a + n)) fun e w'' => e = .returned v ∧ ∃ m, w'' = w.drewN (a + m) :=
  h.mono fun _ _ ⟨he, m, hm⟩ => ⟨he, n + m, by rw [hm, World.drewN_drewN, Nat.add_assoc]⟩
/-- What All tells of a text up to the place of a token. -/
def AllUp (ts : List Tok) (i q : Nat) (s : ByteArray) : Prop := ∀ X, Vars X → Calls Tryd.prog 8 #[.string s] X fun e w' => ∃ g c, e = .returned (.tuple #[.slice (some ⟨g, 0, none⟩) (i + 1) c, .int .i64 0, .int .i64 0]) ∧ i + 1 ≤ c ∧ (∀ j (hj : j < i) (hj2 : j < ts.length), TkAt w' g (j * 4) ts[j].tk) ∧ TkAt w' g (i * 4) (Tk.mk 0 ⟨#[]⟩ 0 q) ∧ Below X.heap.size X w'
theorem all_up {l : Bs} (hl : l.length ≤ 16384) {ts : List Tok} {i q : Nat} (hi : i < ts.length) (h : UpTo 0 l ts i q) : AllUp ts i q (bs (l.take q)) := fun X VX => by
  have hA : allP (l.take q) = ⟨ts.take i ++ [⟨0, [], 0, 0 + q⟩], 0, 0⟩ := by rw [allP_goX _ (by rw [List.length_take]; omega)]; exact h.2
  refine (all_row _ _ hA (by simp) X VX).mono fun e w' ⟨g, c, he, hc, _, _, ht, hb⟩ => ?_
  have hlen : (ts.take i ++ [(⟨0, [], 0, 0 + q⟩ : Tok)]).length = i + 1 := by simp; omega
  rw [hlen] at he hc
  refine ⟨g, c, he, hc, fun j hj hj2 => ?_, ?_, hb⟩
  · have t1 := ht j (by rw [hlen]; omega)
    rw [List.getElem_append_left (by rw [List.length_take]; omega), List.getElem_take] at t1
    exact t1
  · have t1 := ht i (by rw [hlen]; omega)
    rw [List.getElem_append_right (by rw [List.length_take]; omega)] at t1
    have e : (([⟨0, [], 0, 0 + q⟩] : List Tok)[i - (ts.take i).length]'(by simp; omega)).tk = Tk.mk 0 ⟨#[]⟩ 0 q := by simp [Tok.tk]; rfl
    rw [e] at t1
    exact t1
theorem same_up {ts : List Tok} {i g g' c c' : Nat} (hi : i ≤ ts.length) (hc : ts.length ≤ 100000) (w : World) (h : ∀ j (hj : j < i) (hj2 : j < ts.length), TkAt w g (j * 4) ts[j].tk) (h' : ∀ j (hj2 : j < ts.length), TkAt w g' (j * 4) ts[j].tk) (m : Nat) :
    Calls Tryd.prog 10 #[.slice (some ⟨g, 0, none⟩) i c, .slice (some ⟨g', 0, none⟩) i c'] (w.drewN m) fun e w' => e = .returned (.bool true) ∧ ∃ n, w' = (w.drewN m).drewN n := by
  have hl : (ts.take i).length = i := by rw [List.length_take]; omega
  have := same_any (ts.take i) (some ⟨g, 0, none⟩) (some ⟨g', 0, none⟩) c c' (w.drewN m) ⟨by omega, fun j hj => ⟨g, 0, rfl, by rw [List.getElem_take, Nat.zero_add]; exact (h j (by omega) (by omega)).drewN m⟩⟩ ⟨by omega, fun j hj => ⟨g', 0, rfl, by rw [List.getElem_take, Nat.zero_add]; exact (h' j (by omega)).drewN m⟩⟩
  rw [hl] at this
  exact this
set_option maxHeartbeats 4000000 in
set_option maxRecDepth 20000 in
theorem ahead_fine (l : Bs) (hl : l.length ≤ 16384) (he : (allP l).e = 0) (w : World) (V : Vars w) : Calls Tryd.prog 7 #[.string (bs l)] w fun e w' => e = .returned (.bool true) ∧ Below w.heap.size w w' := by
  have hz := bs_size l
  have hA := allP_goX l hl
  have hcnt := allP_count l
  rw [hA] at he hcnt
  have G := ahead_good l.length 0 l (Nat.le_refl _) he
  obtain ⟨⟨ts, p, e⟩, hg⟩ : ∃ A, goX 0 l = A := ⟨_, rfl⟩
  rw [hg] at G he hcnt hA
  obtain rfl : e = 0 := he
  obtain rfl : p = 0 := G.zero
  have hA' : allP l = ⟨ts, 0, 0⟩ := hA
  have hcnt : ts.length ≤ 16385 := hcnt
  obtain ⟨d, hd⟩ : ∃ d, ts = d ++ [⟨0, [], 0, 0 + l.length⟩] := G.last
  have UP : ∀ i (h : i < ts.length), ∃ q, ts[i].p = 0 + q ∧ UpTo 0 l ts i q := G.upto
  have RI : ∀ i (h : i + 1 < ts.length), ts[i].p < ts[i + 1].p := G.rise
  have hne : ts ≠ [] := by rw [hd]; simp
  have hlen : ts.length = d.length + 1 := by rw [hd]; simp
  have hlast : ts[d.length]'(by omega) = ⟨0, [], 0, 0 + l.length⟩ := by subst hd; simp
  have AL : Hid (∀ X, Vars X → Calls Tryd.prog 8 #[.string (bs l)] X _) := fun X VX => all_row l ts hA' hne X VX
  have HUP : Hid (∀ i (h : i < ts.length), ∃ q, ts[i].p = 0 + q ∧ UpTo 0 l ts i q) := UP
  have HRI : Hid (∀ i (h : i + 1 < ts.length), ts[i].p < ts[i + 1].p) := RI
  have NE := neqTk_same (Tk.mk 0 ⟨#[]⟩ 0 l.length) _ rfl
  have HL : Hid (∀ g W, (∀ i (hi : i < ts.length), TkAt W g (i * 4) ts[i].tk) → LdTk W g (d.length * 4) (Tk.mk 0 ⟨#[]⟩ 0 l.length)) := fun g W h => by
    have h1 := (h d.length (by omega)).load
    rw [hlast] at h1
    unfold LdTk
    rw [h1]
    simp [Tok.tk]
    rfl
  have e1 : (ts.length : Int) - 1 = (d.length : Int) := by omega
  have n0 : ((ts.length : Int) == 0) = false := by rw [beq_eq_false_iff_ne]; omega
  clear hA hA' UP RI G hg hd hlast
  go_enter Tryd.func7, Tryd.ntmps7
  go_wp2_with (first | (go_at_call 11; refine (shown_any _ (V.call hb1)).mono ?_; rintro e w2 ⟨rfl, hb2⟩; have VV := (V.call hb1).call hb2; have hB : Below w.heap.size w w2 := Below.call hb1 hb2 (Nat.le_refl _); have HT : Hid (∀ i (hi : i < ts.length), TkAt w2 g (i * 4) ts[i].tk) := fun i hi => (ht i hi).below hb2; have L1 := HL.out g w2 HT.out; unfold LdTk at L1) | (go_at_call 8; refine (AL.out _ V).mono ?_; rintro e w1 ⟨g, c, rfl, hc, hg1, hg2, ht, hb1⟩))
  clear L1 NE AL HL ht hb1 hb2 V
  go_loopg [2, 10] (d.length + 1) (fun gf s2 s10 wx => ∃ i n : Nat, s2 = .bool false ∧ s10 = .int .i64 (i : Int) ∧ i + gf = d.length + 1 ∧ wx = w2.drewN n)
  case atStart => exact ⟨0, 0, rfl, rfl, by omega, by rw [World.drewN_zero]⟩
  case round =>
    obtain ⟨i, n, rfl, rfl, hi, hww⟩ := hrel
    subst hww
    by_cases hlt : i < d.length + 1
    · obtain ⟨g', rfl⟩ : ∃ g', gk = g' + 1 := ⟨gk - 1, by omega⟩
      have d0 : decide ((i : Int) < (d.length : Int) + 1) = true := by simp; omega
      obtain ⟨q, hq, hq2, _⟩ := HUP.out i (by omega)
      have c1 : w2.cell? ⟨g, i * 4 + 3, none⟩ = some (.int .i64 (q : Int)) := by rw [(HT.out i (by omega)).cells.2.2.2]; simp [Tok.tk, hq]
      have k1 : decide ((q : Int) < 0) = false := by simp
      have k2 : decide ((l.length : Int) < (q : Int)) = false := decide_eq_false (by omega)
      have k2n : decide (l.length < q) = false := decide_eq_false (by omega)
      cases i with
      | zero =>
        have k3 : decide ((0 : Int) < 0) = false := rfl
        clear hq
        go_wp2
        go_region
        go_wp2
        go_roundg g'
        case measure => omega
        case rel => exact ⟨1, _, rfl, rfl, by omega, rfl⟩
      | succ j =>
        obtain ⟨q', hq', _, _⟩ := HUP.out j (by omega)
        have c2 : w2.cell? ⟨g, j * 4 + 3, none⟩ = some (.int .i64 (q' : Int)) := by rw [(HT.out j (by omega)).cells.2.2.2]; simp [Tok.tk, hq']
        have hri := HRI.out j (by omega)
        have hqq : q' < q := by omega
        have k4 : decide ((q : Int) < (q' : Int)) = false := decide_eq_false (by omega)
        have k5 : ((q : Int) == (q' : Int)) = false := by rw [beq_eq_false_iff_ne]; omega
        have k4n : decide (q < q') = false := decide_eq_false (by omega)
        have k5n : (q == q') = false := by rw [beq_eq_false_iff_ne]; omega
        have k6 : decide ((0 : Int) < (j : Int) + 1) = true := decide_eq_true (by omega)
        have k7 : (0 : Int) ≤ (j : Int) := by omega
        have k8 : (j : Int) < (d.length : Int) + 1 := by omega
        have k9 : (0 : Int) ≤ (j : Int) + 1 := by omega
        have k10 : (j : Int) + 1 < (d.length : Int) + 1 := by omega
        have k11 : (j : Int) + 1 - 1 = (j : Int) := by omega
        clear hq hq' hri
        by_cases hl2 : j + 1 + 1 < d.length + 1
        · have k12 : decide ((j : Int) + 1 + 1 < (d.length : Int) + 1) = true := decide_eq_true (by omega)
          have k13 : decide ((j : Int) + 1 < (d.length : Int)) = true := decide_eq_true (by omega)
          have k14 : decide (j + 1 < d.length) = true := decide_eq_true (by omega)
          go_wp2
          go_region
          go_wp2
          go_roundg g'
          case measure => omega
          case rel => exact ⟨j + 1 + 1, _, rfl, by simp, by omega, rfl⟩
        · have k12 : decide ((j : Int) + 1 + 1 < (d.length : Int) + 1) = false := decide_eq_false (by omega)
          have k13 : decide ((j : Int) + 1 < (d.length : Int)) = false := decide_eq_false (by omega)
          have k14 : decide (j + 1 < d.length) = false := decide_eq_false (by omega)
          go_wp2
          go_region
          go_wp2
          go_roundg g'
          case measure => omega
          case rel => exact ⟨j + 1 + 1, _, rfl, by simp, by omega, rfl⟩
    · have d0 : decide ((i : Int) < (d.length : Int) + 1) = false := decide_eq_false (by omega)
      obtain ⟨D, hD, hD2⟩ : ∃ D : Nat, ((d.length : Int) + 1).tdiv 40 = (D : Int) ∧ D ≤ 1000 := ⟨(d.length + 1) / 40, by rw [Int.tdiv_eq_ediv_of_nonneg (by omega)]; omega, by omega⟩
      go_wp2
      clear hi hlt d0
      go_loopg [2, 12, 13, 14, 15] (d.length + 1) (fun gf s2 s12 s13 s14 s15 wx => ∃ i : Nat, s2 = .bool false ∧ s12 = .int .i64 (i : Int) ∧ i ≤ 100000 ∧ d.length + 1 ≤ i + gf ∧ Below w2.heap.size w2 wx)
      case atStart => exact ⟨0, rfl, rfl, by omega, by omega, bdrewN (Below.refl _ _) _⟩
      case round =>
        obtain ⟨i, rfl, rfl, hi, hi2, hbx⟩ := hrel
        have VX : Vars wr := VV.below hbx VV.big2
        by_cases hlt : i < d.length + 1
        · obtain ⟨g', rfl⟩ : ∃ g', gk = g' + 1 := ⟨gk - 1, by omega⟩
          have d0 : decide ((i : Int) < (d.length : Int) + 1) = true := decide_eq_true (by omega)
          obtain ⟨q, hq, hq2⟩ := HUP.out i (by omega)
          have hTx : Hid (∀ j (hj : j < ts.length), TkAt wr g (j * 4) ts[j].tk) := fun j hj => (HT.out j hj).below hbx
          have c1 : wr.cell? ⟨g, i * 4 + 3, none⟩ = some (.int .i64 (q : Int)) := by rw [(hTx.out i (by omega)).cells.2.2.2]; simp [Tok.tk, hq]
          have AU : Hid (AllUp ts i q (bs (l.take q))) := all_up hl (by omega) hq2
          have SH := slice_h l q hq2.1
          have SM := fun (g3 c3 : Nat) (W : World) h h' => same_up (ts := ts) (i := i) (g := g3) (g' := g) (c := c3) (c' := c) (by omega) (by omega) W h h'
          have NE := neqTk_same (Tk.mk 0 ⟨#[]⟩ 0 q) _ rfl
          have k1 : ((i : Int) + 1 != (i : Int) + 1) = false := by simp
          have kw : IntKind.i64.wrap ((i : Int) + 1) = (i : Int) + 1 := by rw [IntKind.wrap_i64]; omega
          clear hq hq2
          generalize bs (l.take q) = lq at *
          go_wp2_with (go_at_call 8; refine (AU.out _ VX).mono ?_; rintro e w3 ⟨g3, c3, rfl, hc3, t3, u3, hb3⟩; have HS : Hid (∀ m, Calls Tryd.prog 10 #[.slice (some ⟨g3, 0, none⟩) i c3, .slice (some ⟨g, 0, none⟩) i c] (w3.drewN m) fun e w' => e = .returned (.bool true) ∧ ∃ n, w' = (w3.drewN m).drewN n) := SM g3 c3 w3 t3 (fun j hj => (hTx.out j hj).below hb3); have L3 : ∀ m, (loadTk ⟨g3, i * 4, none⟩).run Tryd.prog (w3.drewN m) = .ok (.agg (Tk.mk 0 ⟨#[]⟩ 0 q).cells) (w3.drewN m) := fun m => (u3.drewN m).load; have c3' : w3.cell? ⟨g, i * 4 + 3, none⟩ = some (.int .i64 (q : Int)) := (hb3.cell (p := ⟨g, _, none⟩) (World.block_lt_of_cell? _ _ c1)).trans c1)
          clear t3 u3 SM AU
          have b1 : (0 : Int) ≤ (i : Int) := by omega
          have b2 : (i : Int) < (i : Int) + 1 := by omega
          have b3 : (i : Int) < (d.length : Int) + 1 := by omega
          have b4 : (i : Int) ≤ (c3 : Int) := by omega
          have b5 : (i : Int) ≤ (c : Int) := by omega
          have b6 : i ≤ c3 := by omega
          have b7 : i ≤ c := by omega
          have b8 : i < i + 1 := by omega
          go_quiet ((go_at_call 10; exact Calls.quiet_of (HS.out _)))
          go_wp2
          go_roundg g'
          case measure => omega
          case rel => exact ⟨i + (1 + D), rfl, by simp, by omega, by omega, bdrewN (hbx.trans (hb3.mono hbx.size)) _⟩
        · have d0 : decide ((i : Int) < (d.length : Int) + 1) = false := decide_eq_false (by omega)
          go_wp2
          go_ret
          exact ⟨rfl, hB.trans (hbx.mono hB.size)⟩
theorem ahead_any (s : ByteArray) (w : World) (V : Vars w) (hs : s.size ≤ maxLen) : Calls Tryd.prog 7 #[.string s] w fun e w' => e = .returned (.bool true) ∧ Below w.heap.size w w' := by
  rw [← bs_of s]
  generalize s.data.toList = l
  by_cases hl : 16384 < l.length
  · exact ahead_long l hl w V
  · by_cases he : (allP l).e = 0
    · exact ahead_fine l (by omega) he w V
    · exact ahead_fault l (by omega) he w V
end Go.Proofs.YtphogfomlmjeiaaDoor
