/-
  The document's layer 8: token.
-/
import Derived.Test.YtphogfomlmjeiaaDoorRf5
namespace Go.Proofs.YtphogfomlmjeiaaDoor
set_option linter.unusedVariables false
set_option linter.unusedSimpArgs false
open Go.ChangeShapes Go.WideShapes Go.ChangeAt Go.RowKit
attribute [local go_sem ↓] loadTk_seal storeTk_seal loadKeys_seal loadSigns_seal
attribute [local go_sem] loadTk_run storeTk_run rowAt_at rowAt_old rowAt_drew rowAt_drewN roomTk_new roomAt_old roomAt_drew roomAt_drewN putTk_new Tk.fold putRow_past rowTk_put size_put putRow_drew putRow_drewN alloc_drewN setCell_drewN Tk.at0 Tk.at1 Tk.at2 Tk.at3 Tk.size Tk.set0 Tk.set1 Tk.set2 Tk.set3 Tk.ne rowAt_set rowAt_far roomAt_far

/-- What the document's token tells of what is read at a place. -/
def TokIs (r : Rd) (p : Nat) (v : Value) : Prop := v = if r.e = 0 then .tuple #[.agg (Tk.mk r.k (bs r.t) r.n p).cells, .int .i64 ((p + r.len : Nat) : Int), .int .i64 0] else .tuple #[.agg (Tk.mk 0 ⟨#[]⟩ 0 0).cells, .int .i64 0, .int .i64 r.e]
theorem tok_bad {r : Rd} {p : Nat} {e : Int} (h : r = .bad e) (he : e ≠ 0) : TokIs r p (.tuple #[.agg (Tk.mk 0 ⟨#[]⟩ 0 0).cells, .int .i64 0, .int .i64 e]) := by
  subst h; unfold TokIs; rw [if_neg (show ¬ (Rd.bad e).e = 0 from he)]; rfl
theorem tok_good {r : Rd} {p : Nat} {k n : Int} {t : Bs} {len : Nat} (h : r = ⟨k, t, n, len, 0⟩) : TokIs r p (.tuple #[.agg (Tk.mk k (bs t) n p).cells, .int .i64 ((p + len : Nat) : Int), .int .i64 0]) := by
  subst h; unfold TokIs; rw [if_pos rfl]
theorem tw_mem (p : UInt8 → Bool) : ∀ l : Bs, ∀ x ∈ l.takeWhile p, p x = true
  | [], x, h => by simp at h
  | c :: r, x, h => by
    rw [List.takeWhile_cons] at h
    cases hc : p c
    · rw [hc] at h; simp at h
    · rw [hc, if_pos rfl] at h
      rcases List.mem_cons.1 h with rfl | h
      · exact hc
      · exact tw_mem p r x h
theorem tw_pre (p : UInt8 → Bool) : ∀ l : Bs, l.take (l.takeWhile p).length = l.takeWhile p
  | [] => rfl
  | c :: r => by
    rw [List.takeWhile_cons]
    cases hc : p c
    · simp
    · rw [if_pos rfl, List.length_cons, List.take_succ_cons, tw_pre p r]
theorem name_iff {c : UInt8} {t : Bs} (hl : lett c = true) (hk : isKeyP (wordL (c :: t)) = false) : isNameP (wordL (c :: t)) = decide ((wordL (c :: t)).length ≤ 20) := by
  have hw : wordL (c :: t) = c :: wordL t := word_t (by simp [wch, hl])
  have h2 : wordL (wordL (c :: t)) = wordL (c :: t) := by
    unfold wordL
    have : ∀ x ∈ (c :: t).takeWhile wch, wch x = true := tw_mem wch (c :: t)
    generalize (c :: t).takeWhile wch = L at *
    clear hw hk
    induction L with
    | nil => rfl
    | cons a r ih => rw [List.takeWhile_cons, this a (by simp), if_pos rfl, ih fun x hx => this x (by simp [hx])]
  unfold isNameP
  rw [h2, hk, hw]
  simp [hl]
theorem tk_aft {w w1 : World} {n : Nat} {A B : Tk} {t : TypeId} (hb : Below (((w.alloc (.cells A.cells t)).alloc (.cells B.cells t)).drewN n).heap.size (((w.alloc (.cells A.cells t)).alloc (.cells B.cells t)).drewN n) w1) :
    Below w.heap.size w w1 ∧ roomAt w1 w.heap.size 4 = true ∧ rowAt w1 (w.heap.size + 1) = some B.cells ∧ roomAt w1 (w.heap.size + 1) 4 = true ∧ (∀ j, w1.cell? ⟨w.heap.size + 1, j, none⟩ = B.cells[j]?) ∧ (∀ j, j < 4 → w1.frozen? ⟨w.heap.size + 1, j, none⟩ = false) := num_aft hb
set_option maxHeartbeats 2000000 in
theorem rtoken_name (l : Bs) (hl : l.length ≤ 1000000000) (p : Nat) (c : UInt8) (t : Bs) (hd : l.drop p = c :: t) (hlt : lett c = true) (w : World) : Calls Tryd.prog 20 #[.string (bs l), .int .i64 (p : Int)] w fun e w' => ∃ v, e = .returned v ∧ TokIs (nameP (wordL (l.drop p))) p v ∧ Below w.heap.size w w' := by
  have hz := bs_size l
  have hp : p < l.length := by
    rcases Nat.lt_or_ge p l.length with h | h
    · exact h
    · rw [List.drop_of_length_le h] at hd; cases hd
  have WD := fun W => rword_any l (by omega) p (by omega) W
  have IX := index_str l p hp (p : Int) rfl
  have hcc : l[p] = c := by have := drop_cons hp; rw [hd] at this; exact (List.cons.inj this).1.symm
  rw [hcc] at IX
  have LT := fun W => rletter_any (c.toNat : Int) W
  have DG := fun W => rdigit_any (c.toNat : Int) W
  have h1 : ltrI (c.toNat : Int) = true := hlt
  rw [h1] at LT
  have hwl := wordL_len (l.drop p)
  rw [List.length_drop] at hwl
  have SL := slice_mid2 l p (wordL (l.drop p)).length (by omega)
  have hpre : (l.drop p).take (wordL (l.drop p)).length = wordL (l.drop p) := tw_pre wch (l.drop p)
  rw [hpre] at SL
  have kw2 : IntKind.i64.wrap ((p : Int) + ((wordL (l.drop p)).length : Int)) = (p : Int) + ((wordL (l.drop p)).length : Int) := by rw [IntKind.wrap_i64]; omega
  have hni : isKeyP (wordL (l.drop p)) = false → isNameP (wordL (l.drop p)) = decide ((wordL (l.drop p)).length ≤ 20) := fun h => by rw [hd] at h ⊢; exact name_iff hlt h
  generalize digI (c.toNat : Int) = dg at DG
  obtain ⟨B, hB⟩ : ∃ B, keysL.contains (wordL (l.drop p)) = B := ⟨_, rfl⟩
  have KI : Hid (∀ g W, (∀ o (ho : o < keysL.length), W.cell? ⟨g, o, none⟩ = some (.string (bs keysL[o]))) → Calls Tryd.prog 26 #[.slice (some ⟨g, 0, none⟩) 32 32, .string (bs (wordL (l.drop p)))] W fun e w' => e = .returned (.bool B) ∧ w' = W) := fun g W hc => risIn_any keysL (by decide) g (wordL (l.drop p)) W hc B hB
  have hkp : isKeyP (wordL (l.drop p)) = B := hB
  have hxs := bs_size (wordL (l.drop p))
  have hN : nameP (wordL (l.drop p)) = if B then ⟨2, wordL (l.drop p), 0, (wordL (l.drop p)).length, 0⟩ else if isNameP (wordL (l.drop p)) then ⟨1, wordL (l.drop p), 0, (wordL (l.drop p)).length, 0⟩ else .bad 84 := by unfold nameP; rw [hkp]
  rw [hkp] at hni
  generalize wordL (l.drop p) = x at *
  generalize nameP x = r at *
  generalize isNameP x = nm at *
  obtain ⟨xn, hxn⟩ : ∃ xn, x.length = xn := ⟨_, rfl⟩
  rw [hxn] at hwl SL kw2 hni hxs hN WD
  clear hd hcc hpre hB hkp hxn
  go_enter Tryd.func20, Tryd.ntmps20
  go_wp2_with (first | (go_at_call 25; refine (WD _).mono ?_; rintro e W' ⟨rfl, hw⟩; rw [hw]; clear hw) | (go_at_call 24; refine (LT _).mono ?_; rintro e W' ⟨rfl, hw⟩; rw [hw]; clear hw) | (go_at_call 38; refine (DG _).mono ?_; rintro e W' ⟨rfl, hw⟩; rw [hw]; clear hw) | fail)
  generalize hX : ((w.alloc (.cells (Tk.mk 0 ⟨#[]⟩ 0 0).cells 29)).alloc (.cells (Tk.mk 1 (bs x) 0 p).cells 29)) = X0 at *
  have s0 : X0.drew.cell? ⟨w.heap.size + 1, 1, none⟩ = some (.string (bs x)) := by
    subst hX
    rw [rowAt_cell (show rowAt _ (w.heap.size + 1) = some (Tk.mk 1 (bs x) 0 p).cells from (rowAt_drew _ _).trans (rowAt_at _ _ _ _ _ (by simp)))]; rfl
  first | (go_region_held (fun X => X.cell? ⟨w.heap.size + 1, 1, none⟩ = some (.string (bs x))) (first | assumption | exact (hb1.cell (p := ⟨w.heap.size + 1, 1, none⟩) (World.block_lt_of_cell? _ _ (by assumption))).trans (by assumption)) (first
    | (go_at_call 27; refine (rkeys_any _).mono ?_; rintro e w1 ⟨g, rfl, hg1, hg2, hgc, hb1⟩; have s1 : w1.cell? ⟨w.heap.size + 1, 1, none⟩ = some (.string (bs x)) := (hb1.cell (p := ⟨w.heap.size + 1, 1, none⟩) (World.block_lt_of_cell? _ _ s0)).trans s0)
    | (go_at_call 26; refine (KI.out g w1 hgc).mono ?_; rintro e W' ⟨rfl, hw⟩; rw [hw]; clear hw))) | fail
  subst hX
  have hb1' : Below (((w.alloc (.cells (Tk.mk 0 ⟨#[]⟩ 0 0).cells 29)).alloc (.cells (Tk.mk 1 (bs x) 0 p).cells 29)).drewN 1).heap.size (((w.alloc (.cells (Tk.mk 0 ⟨#[]⟩ 0 0).cells 29)).alloc (.cells (Tk.mk 1 (bs x) 0 p).cells 29)).drewN 1) w1 := hb1
  obtain ⟨hbl, m0, n1, m1, n2, n3⟩ := tk_aft hb1'
  clear hb1 hb1' s0 s1 hgc KI
  have HN : Hid (r = if B then ⟨2, x, 0, xn, 0⟩ else if nm then ⟨1, x, 0, xn, 0⟩ else .bad 84) := hN
  clear hN
  cases B
  · have hni := hni rfl
    by_cases h20 : xn ≤ 20
    · have k1 : decide ((20 : Int) < (xn : Int)) = false := decide_eq_false (by omega)
      have HF : Hid (r = ⟨1, x, 0, xn, 0⟩) := HN.out.trans (by rw [hni]; simp [h20])
      clear HN hni
      go_wp2
      refine ret3 rfl rfl (loadTk_row (rowTk_put _ _ _ m0)) rfl rfl rfl ⟨_, rfl, ?_, below_put hbl _ (Nat.le_refl _) _⟩
      have := tok_good (p := p) HF.out
      simpa using this
    · have k1 : decide ((20 : Int) < (xn : Int)) = true := decide_eq_true (by omega)
      have HF : Hid (r = .bad 84) := HN.out.trans (by rw [hni]; simp [h20])
      clear HN hni
      go_wp2
      refine ret3 rfl rfl (loadTk_row (rowTk_put _ _ _ m0)) rfl rfl rfl ⟨_, rfl, tok_bad HF.out (by omega), below_put hbl _ (Nat.le_refl _) _⟩
  · have HF : Hid (r = ⟨2, x, 0, xn, 0⟩) := HN.out
    clear HN hni
    go_wp2
    refine ret3 rfl rfl (loadTk_row (rowTk_put _ _ _ (by simp [roomAt_far, m0]))) rfl rfl rfl ⟨_, rfl, ?_, below_put (hbl.setCell (by simp) _) _ (Nat.le_refl _) _⟩
    have := tok_good (p := p) HF.out
    simpa using this
theorem rowAt_old' (w : World) (o : Obj) (b : Nat) {c : Tk} (h : rowAt w b = some c.cells) : rowAt (w.alloc o) b = some c.cells := by
  rw [rowAt_old w o b ?_, h]
  intro e
  subst e
  unfold rowAt at h
  rw [Array.getElem?_eq_none (Nat.le_refl _)] at h
  cases h
theorem numP_len' (w : Bs) : (numP w).e = 0 ∧ (numP w).len = w.length ∨ numP w = .bad 82 := by
  unfold numP
  split
  · cases valP 16 4294967295 0 w.dropLast <;> simp [numT, Rd.bad]
  · split
    · cases valP 16 255 0 w.dropLast <;> simp [numT, Rd.bad]
    · cases valP 10 2147483647 0 w <;> simp [numT, Rd.bad]
set_option maxHeartbeats 2000000 in
theorem rtoken_num (l : Bs) (hl : l.length ≤ 1000000000) (p : Nat) (c : UInt8) (t : Bs) (hd : l.drop p = c :: t) (hlt : lett c = false) (hdg : dig c = true) (w : World) : Calls Tryd.prog 20 #[.string (bs l), .int .i64 (p : Int)] w fun e w' => ∃ v, e = .returned v ∧ TokIs (numP (wordL (l.drop p))) p v ∧ Below w.heap.size w w' := by
  have hz := bs_size l
  have hp : p < l.length := by
    rcases Nat.lt_or_ge p l.length with h | h
    · exact h
    · rw [List.drop_of_length_le h] at hd; cases hd
  have WD := fun W => rword_any l (by omega) p (by omega) W
  have IX := index_str l p hp (p : Int) rfl
  have hcc : l[p] = c := by have := drop_cons hp; rw [hd] at this; exact (List.cons.inj this).1.symm
  rw [hcc] at IX
  have hc8 := c.toNat_lt
  have LT := fun W => rletter_any (c.toNat : Int) W
  have DG := fun W => rdigit_any (c.toNat : Int) W
  have h1 : ltrI (c.toNat : Int) = false := hlt
  rw [h1] at LT
  have h2 : digI (c.toNat : Int) = true := hdg
  rw [h2] at DG
  have hwl := wordL_len (l.drop p)
  rw [List.length_drop] at hwl
  have SL := slice_mid2 l p (wordL (l.drop p)).length (by omega)
  rw [show (l.drop p).take (wordL (l.drop p)).length = wordL (l.drop p) from tw_pre wch (l.drop p)] at SL
  have kw2 : IntKind.i64.wrap ((p : Int) + ((wordL (l.drop p)).length : Int)) = (p : Int) + ((wordL (l.drop p)).length : Int) := by rw [IntKind.wrap_i64]; omega
  have hw0 : 0 < (wordL (l.drop p)).length := by rw [hd, word_t (by simp [wch, hdg])]; simp
  have hnl := numP_len' (wordL (l.drop p))
  generalize wordL (l.drop p) = x at *
  have NU : Hid (∀ W, Calls Tryd.prog 39 #[.string (bs x), .int .i64 (p : Int)] W fun e w' => ∃ v, e = .returned v ∧ NumIs x p v ∧ Below W.heap.size W w') := fun W => rnumber_any x (by omega) hw0 p W
  obtain ⟨xn, hxn⟩ : ∃ xn, x.length = xn := ⟨_, rfl⟩
  rw [hxn] at hwl SL kw2 WD hnl hw0
  clear hd hcc
  have hxs : x.length ≤ 1000000000 := by omega
  clear hxn
  cases he : (numP x).e == 0
  · have hne : (numP x).e = 82 := by
      rcases hnl with h | h
      · rw [h.1] at he; cases he
      · rw [h]; rfl
    have NB : Hid (∀ W, Calls Tryd.prog 39 #[.string (bs x), .int .i64 (p : Int)] W fun e w' => ∃ T : Tk, e = .returned (.tuple #[.agg T.cells, .bool false]) ∧ Below W.heap.size W w') := fun W => (NU.out W).mono fun e w' ⟨v, h1, ⟨T, h2, _⟩, h3⟩ => ⟨T, by rw [h1, h2, he], h3⟩
    have HF : Hid (numP x = .bad 82) := by
      rcases hnl with h | h
      · rw [h.1] at he; cases he
      · exact h
    clear NU he hne hnl
    generalize numP x = r at *
    go_enter Tryd.func20, Tryd.ntmps20
    go_wp2_with (first | (go_at_call 25; refine (WD _).mono ?_; rintro e W' ⟨rfl, hw⟩; rw [hw]; clear hw) | (go_at_call 24; refine (LT _).mono ?_; rintro e W' ⟨rfl, hw⟩; rw [hw]; clear hw) | (go_at_call 38; refine (DG _).mono ?_; rintro e W' ⟨rfl, hw⟩; rw [hw]; clear hw) | (go_at_call 39; refine (NB.out _).mono ?_; rintro e w1 ⟨T, rfl, hb⟩; obtain ⟨hbl, m0, hs0⟩ := aft1 hb; have m2 : roomAt (w1.alloc (.cells T.cells 29)) w.heap.size 4 = true := (roomAt_old _ _ _ _ hs0).trans m0))
    refine ret3 rfl rfl (loadTk_row (rowAt_old' _ _ _ (rowTk_put _ _ _ m0))) rfl rfl rfl ⟨_, rfl, tok_bad HF.out (by omega), ?_⟩
    exact (below_put hbl _ (Nat.le_refl _) _).alloc (by rw [size_put]; omega) _
  · have hne : (numP x).e = 0 := by simpa using he
    have NB : Hid (∀ W, Calls Tryd.prog 39 #[.string (bs x), .int .i64 (p : Int)] W fun e w' => e = .returned (.tuple #[.agg (Tk.mk (numP x).k (bs (numP x).t) (numP x).n p).cells, .bool true]) ∧ Below W.heap.size W w') := fun W => (NU.out W).mono fun e w' ⟨v, h1, ⟨T, h2, h4⟩, h3⟩ => ⟨by rw [h1, h2, he, h4 hne], h3⟩
    have HF : Hid (numP x = ⟨(numP x).k, (numP x).t, (numP x).n, xn, 0⟩) := by
      rcases hnl with ⟨h5, h6⟩ | h
      · cases hq : numP x with
        | mk k t n len e => rw [hq] at h5 h6; simp only at h5 h6 ⊢; rw [h5, h6]; rfl
      · rw [h] at hne; simp [Rd.bad] at hne
    clear NU he hne hnl
    generalize numP x = r at *
    go_enter Tryd.func20, Tryd.ntmps20
    go_wp2_with (first | (go_at_call 25; refine (WD _).mono ?_; rintro e W' ⟨rfl, hw⟩; rw [hw]; clear hw) | (go_at_call 24; refine (LT _).mono ?_; rintro e W' ⟨rfl, hw⟩; rw [hw]; clear hw) | (go_at_call 38; refine (DG _).mono ?_; rintro e W' ⟨rfl, hw⟩; rw [hw]; clear hw) | (go_at_call 39; refine (NB.out _).mono ?_; rintro e w1 ⟨rfl, hb⟩; obtain ⟨hbl, m0, hs0⟩ := aft1 hb; have m2 : roomAt (w1.alloc (.cells (Tk.mk r.k (bs r.t) r.n p).cells 29)) w.heap.size 4 = true := (roomAt_old _ _ _ _ hs0).trans m0))
    refine ret3 rfl rfl (loadTk_row (rowAt_old' _ _ _ (rowTk_put _ _ _ m0))) rfl rfl rfl ⟨_, rfl, ?_, ?_⟩
    · have := tok_good (p := p) HF.out
      simpa using this
    · exact (below_put hbl _ (Nat.le_refl _) _).alloc (by rw [size_put]; omega) _
set_option maxHeartbeats 2000000 in
theorem rtoken_quo (l : Bs) (hl : l.length ≤ 1000000000) (p : Nat) (c : UInt8) (t : Bs) (hd : l.drop p = c :: t) (hlt : lett c = false) (hdg : dig c = false) (hq : c = 34) (w : World) : Calls Tryd.prog 20 #[.string (bs l), .int .i64 (p : Int)] w fun e w' => ∃ v, e = .returned v ∧ TokIs (quotedP (l.drop p)) p v ∧ Below w.heap.size w w' := by
  have hz := bs_size l
  have hp : p < l.length := by
    rcases Nat.lt_or_ge p l.length with h | h
    · exact h
    · rw [List.drop_of_length_le h] at hd; cases hd
  have WD := fun W => rword_any l (by omega) p (by omega) W
  have IX := index_str l p hp (p : Int) rfl
  have hcc : l[p] = c := by have := drop_cons hp; rw [hd] at this; exact (List.cons.inj this).1.symm
  rw [hcc] at IX
  have hc8 := c.toNat_lt
  have LT := fun W => rletter_any (c.toNat : Int) W
  have DG := fun W => rdigit_any (c.toNat : Int) W
  have h1 : ltrI (c.toNat : Int) = false := hlt
  rw [h1] at LT
  have h2 : digI (c.toNat : Int) = false := hdg
  rw [h2] at DG
  have hd1 : l.drop (p + 1) = t := by have := drop_cons hp; rw [hd] at this; exact (List.cons.inj this).2.symm
  have QU := fun W => rquoted_any l hl p hp W
  rw [hd1] at QU
  have hQ : quotedP (l.drop p) = quoT t (quoP 0 t) := by rw [hd]; rfl
  rw [hQ]
  subst hq
  have htl : t.length = l.length - (p + 1) := by rw [← hd1, List.length_drop]
  generalize (wordL (l.drop p)).length = xn at *
  cases hv : quoP 0 t with
  | none =>
    rw [hv] at QU
    have QU : Hid (∀ W, Calls Tryd.prog 40 #[.string (bs l), .int .i64 (p : Int)] W fun e w' => e = .returned (.int .i64 (-1)) ∧ w' = W) := QU
    clear hd hcc hQ
    go_enter Tryd.func20, Tryd.ntmps20
    go_wp2_with (first | (go_at_call 25; refine (WD _).mono ?_; rintro e W' ⟨rfl, hw⟩; rw [hw]; clear hw) | (go_at_call 24; refine (LT _).mono ?_; rintro e W' ⟨rfl, hw⟩; rw [hw]; clear hw) | (go_at_call 38; refine (DG _).mono ?_; rintro e W' ⟨rfl, hw⟩; rw [hw]; clear hw) | (go_at_call 40; refine (QU.out _).mono ?_; rintro e W' ⟨rfl, hw⟩; rw [hw]; clear hw))
    refine ret3 rfl rfl (loadTk_row (rowAt_at _ _ _ _ _ rfl)) rfl rfl rfl ⟨_, rfl, tok_bad rfl (by omega), (Below.refl _ _).alloc (Nat.le_refl _) _⟩
  | some k =>
    rw [hv] at QU
    have hk := quoP_le _ _ _ hv
    have QU : Hid (∀ W, Calls Tryd.prog 40 #[.string (bs l), .int .i64 (p : Int)] W fun e w' => e = .returned (.int .i64 ((p + 1 + k + 1 : Nat) : Int)) ∧ w' = W) := QU
    have SL : ∀ W, (Instr.slice 9 (.string (bs l)) (some (.int .i64 ((p : Int) + 1))) (some (.int .i64 (((p + 1 + k + 1 : Nat) : Int) - 1))) none).run Tryd.prog W = .ok (.string (bs (t.take k))) W := fun W => by
      have := slice_mid2 l (p + 1) k (by omega) W
      rw [hd1] at this
      rw [show ((p : Int) + 1) = ((p + 1 : Nat) : Int) by omega, show (((p + 1 + k + 1 : Nat) : Int) - 1) = ((p + 1 : Nat) : Int) + (k : Int) by omega]
      exact this
    have k1 : decide (((p + 1 + k + 1 : Nat) : Int) < 0) = false := decide_eq_false (by omega)
    have hP : p + 1 + k + 1 ≤ l.length := by omega
    have HF : Hid (∀ P, P = p + 1 + k + 1 → TokIs (quoT t (some k)) p (.tuple #[.agg (Tk.mk 5 (bs (t.take k)) 0 p).cells, .int .i64 (P : Int), .int .i64 0])) := fun P h => by
      have := tok_good (p := p) (show quoT t (some k) = ⟨5, t.take k, 0, k + 2, 0⟩ from rfl)
      rw [h, show p + 1 + k + 1 = p + (k + 2) by omega]; exact this
    clear hd hcc hQ hv hk
    generalize quoT t (some k) = rr at *
    generalize bs (t.take k) = y at *
    generalize hPP : p + 1 + k + 1 = P at *
    go_enter Tryd.func20, Tryd.ntmps20
    go_wp2_with (first | (go_at_call 25; refine (WD _).mono ?_; rintro e W' ⟨rfl, hw⟩; rw [hw]; clear hw) | (go_at_call 24; refine (LT _).mono ?_; rintro e W' ⟨rfl, hw⟩; rw [hw]; clear hw) | (go_at_call 38; refine (DG _).mono ?_; rintro e W' ⟨rfl, hw⟩; rw [hw]; clear hw) | (go_at_call 40; refine (QU.out _).mono ?_; rintro e W' ⟨rfl, hw⟩; rw [hw]; clear hw))
    refine ret3 rfl rfl (loadTk_row (rowAt_at _ _ _ _ _ rfl)) rfl rfl rfl ⟨_, rfl, HF.out P rfl, (Below.refl _ _).alloc (Nat.le_refl _) _⟩
set_option maxHeartbeats 2000000 in
theorem rtoken_sign (l : Bs) (hl : l.length ≤ 1000000000) (p : Nat) (c : UInt8) (t : Bs) (hd : l.drop p = c :: t) (hlt : lett c = false) (hdg : dig c = false) (hq : c ≠ 34) (w : World) : Calls Tryd.prog 20 #[.string (bs l), .int .i64 (p : Int)] w fun e w' => ∃ v, e = .returned v ∧ TokIs (signP (l.drop p)) p v ∧ Below w.heap.size w w' := by
  have hz := bs_size l
  have hp : p < l.length := by
    rcases Nat.lt_or_ge p l.length with h | h
    · exact h
    · rw [List.drop_of_length_le h] at hd; cases hd
  have WD := fun W => rword_any l (by omega) p (by omega) W
  have IX := index_str l p hp (p : Int) rfl
  have hcc : l[p] = c := by have := drop_cons hp; rw [hd] at this; exact (List.cons.inj this).1.symm
  rw [hcc] at IX
  have hc8 := c.toNat_lt
  have LT := fun W => rletter_any (c.toNat : Int) W
  have DG := fun W => rdigit_any (c.toNat : Int) W
  have h1 : ltrI (c.toNat : Int) = false := hlt
  rw [h1] at LT
  have h2 : digI (c.toNat : Int) = false := hdg
  rw [h2] at DG
  have n34 : ((c.toNat : Int) == 34) = false := u8_ne (k := 34) (by omega) hq
  have SG := fun W => rsign_any l hl p (by omega) W
  have hS : signP (l.drop p) = signT (signsL.find? fun s => s.isPrefixOf (l.drop p)) := rfl
  have hSo : signOf (l.drop p) = (signsL.find? fun s => s.isPrefixOf (l.drop p)).getD [] := rfl
  have hpl : ∀ s, signsL.find? (fun s => s.isPrefixOf (l.drop p)) = some s → s ≠ [] ∧ s.length ≤ 2 := fun s h => by
    have := signs_one s (List.mem_of_find?_eq_some h)
    exact ⟨fun e => by subst e; simp at this, this.2⟩
  rw [hS]
  generalize (wordL (l.drop p)).length = xn at *
  generalize signsL.find? (fun s => s.isPrefixOf (l.drop p)) = o at *
  cases o with
  | none =>
    rw [hSo] at SG
    have hem : (bs ([] : Bs)).toList.isEmpty = true := by rw [Lib.toList_data]; rfl
    have SG : Hid (∀ W, Calls Tryd.prog 41 #[.string (bs l), .int .i64 (p : Int)] W fun e w' => e = .returned (.string (bs [])) ∧ Below W.heap.size W w') := SG
    clear hd hcc hS hSo hpl
    go_enter Tryd.func20, Tryd.ntmps20
    go_wp2_with (first | (go_at_call 25; refine (WD _).mono ?_; rintro e W' ⟨rfl, hw⟩; rw [hw]; clear hw) | (go_at_call 24; refine (LT _).mono ?_; rintro e W' ⟨rfl, hw⟩; rw [hw]; clear hw) | (go_at_call 38; refine (DG _).mono ?_; rintro e W' ⟨rfl, hw⟩; rw [hw]; clear hw) | (go_at_call 41; refine (SG.out _).mono ?_; rintro e w1 ⟨rfl, hb⟩; obtain ⟨hbl, m0, hs0⟩ := aft1 hb; have m2 : roomAt (w1.alloc (.cells (Tk.mk 6 (bs []) 0 p).cells 29)) w.heap.size 4 = true := (roomAt_old _ _ _ _ hs0).trans m0))
    refine ret3 rfl rfl (loadTk_row (rowAt_old' _ _ _ (rowTk_put _ _ _ m0))) rfl rfl rfl ⟨_, rfl, tok_bad rfl (by omega), ?_⟩
    exact (below_put hbl _ (Nat.le_refl _) _).alloc (by rw [size_put]; omega) _
  | some s =>
    obtain ⟨hs1, hs2⟩ := hpl s rfl
    rw [hSo] at SG
    have hem : (bs s).toList.isEmpty = false := by rw [Lib.toList_data, bs_data]; cases s with
      | nil => exact absurd rfl hs1
      | cons a b => rfl
    have hsz := bs_size s
    have SG : Hid (∀ W, Calls Tryd.prog 41 #[.string (bs l), .int .i64 (p : Int)] W fun e w' => e = .returned (.string (bs s)) ∧ Below W.heap.size W w') := SG
    have HF : Hid (TokIs (signT (some s)) p (.tuple #[.agg (Tk.mk 6 (bs s) 0 p).cells, .int .i64 ((p : Int) + (s.length : Int)), .int .i64 0])) := by
      have := tok_good (p := p) (show signT (some s) = ⟨6, s, 0, s.length, 0⟩ from rfl)
      rw [show ((p : Int) + (s.length : Int)) = ((p + s.length : Nat) : Int) by omega]; exact this
    have kw : IntKind.i64.wrap ((p : Int) + (s.length : Int)) = (p : Int) + (s.length : Int) := by rw [IntKind.wrap_i64]; omega
    clear hd hcc hS hSo hpl
    generalize signT (some s) = rr at *
    generalize s.length = sn at *
    go_enter Tryd.func20, Tryd.ntmps20
    go_wp2_with (first | (go_at_call 25; refine (WD _).mono ?_; rintro e W' ⟨rfl, hw⟩; rw [hw]; clear hw) | (go_at_call 24; refine (LT _).mono ?_; rintro e W' ⟨rfl, hw⟩; rw [hw]; clear hw) | (go_at_call 38; refine (DG _).mono ?_; rintro e W' ⟨rfl, hw⟩; rw [hw]; clear hw) | (go_at_call 41; refine (SG.out _).mono ?_; rintro e w1 ⟨rfl, hb⟩; obtain ⟨hbl, m0, hs0⟩ := aft1 hb; have m2 : roomAt (w1.alloc (.cells (Tk.mk 6 (bs s) 0 p).cells 29)) w.heap.size 4 = true := (roomAt_old _ _ _ _ hs0).trans m0))
    go_region
    go_wp2
    refine ret3 rfl rfl (loadTk_row ((rowAt_drewN _ _ _).trans (rowAt_old' _ _ _ (rowTk_put _ _ _ m0)))) rfl rfl rfl ⟨_, rfl, HF.out, ?_⟩
    exact bdrewN ((below_put hbl _ (Nat.le_refl _) _).alloc (by rw [size_put]; omega) _) _
/-- The document's token, at a place where neither the end nor a remark stands. -/
theorem rtoken_any (l : Bs) (hl : l.length ≤ 1000000000) (p : Nat) (hp : p < l.length) (ho : opens (l.drop p) = false) (w : World) : Calls Tryd.prog 20 #[.string (bs l), .int .i64 (p : Int)] w fun e w' => ∃ v, e = .returned v ∧ TokIs (firstP (l.drop p)) p v ∧ Below w.heap.size w w' := by
  have hd := drop_cons hp
  have hf : firstP (l.drop p) = firstC l[p] (l.drop p) := by
    conv => lhs; rw [hd]
    rw [firstP, ← hd]
  rw [hf]
  unfold firstC
  rw [ho, if_neg (by simp)]
  cases h1 : lett l[p]
  · rw [if_neg (by simp)]
    cases h2 : dig l[p]
    · rw [if_neg (by simp)]
      by_cases h3 : l[p] = 34
      · rw [if_pos h3]; exact rtoken_quo l hl p _ _ hd h1 h2 h3 w
      · rw [if_neg h3]; exact rtoken_sign l hl p _ _ hd h1 h2 h3 w
    · rw [if_pos rfl]; exact rtoken_num l hl p _ _ hd h1 h2 w
  · rw [if_pos rfl]; exact rtoken_name l hl p _ _ hd h1 w
end Go.Proofs.YtphogfomlmjeiaaDoor
