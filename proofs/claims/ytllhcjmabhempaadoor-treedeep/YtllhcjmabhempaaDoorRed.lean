/-
  Layer 9: the reader, how it lies; its small functions.
-/
import Derived.Test.YtllhcjmabhempaaDoorNod
import Derived.Test.YtllhcjmabhempaaDoorAll
import Derived.Deep.RegionHeld3
namespace Go.Proofs.YtllhcjmabhempaaDoor
set_option linter.unusedVariables false
set_option linter.unusedSimpArgs false
open Go.ChangeShapes Go.WideShapes Go.ChangeAt Go.RowKit



def rdC (g cap : Nat) (L : List Tok) (i o : Nat) : Array Value := #[.slice (some ⟨g, 0, none⟩) L.length cap, .int .i64 (i : Int), .int .i64 (o : Int)]
/-- A reader: its block, the tokens' block, the tokens, how many are passed, how many things are open. -/
structure RdAt (w : World) (b g cap : Nat) (L : List Tok) (i o : Nat) : Prop where
  blk : w.heap[b]? = some (.cells (rdC g cap L i o) 54 (0, 0))
  ne : g ≠ b
  gl : g < w.heap.size
  tok : ∀ q (h : q < L.length), ∀ j, j < 4 → w.cell? ⟨g, q * 4 + j, none⟩ = L[q].tk.cells[j]?
  il : i < L.length
  ll : L.length ≤ 100000
  ol : o ≤ 24
  last : ∀ q (h : q < L.length), L[q].k ≠ 0 → q + 1 < L.length
section
variable {w w' : World} {b g cap i o : Nat} {L : List Tok}
theorem RdAt.bl (h : RdAt w b g cap L i o) : b < w.heap.size := (Array.getElem?_eq_some_iff.1 h.blk).1
theorem RdAt.c0 (h : RdAt w b g cap L i o) : w.cell? ⟨b, 0, none⟩ = some (.slice (some ⟨g, 0, none⟩) L.length cap) := by simp [World.cell?, h.blk, rdC]
theorem RdAt.c1 (h : RdAt w b g cap L i o) : w.cell? ⟨b, 1, none⟩ = some (.int .i64 (i : Int)) := by simp [World.cell?, h.blk, rdC]
theorem RdAt.c2 (h : RdAt w b g cap L i o) : w.cell? ⟨b, 2, none⟩ = some (.int .i64 (o : Int)) := by simp [World.cell?, h.blk, rdC]
theorem RdAt.fz (h : RdAt w b g cap L i o) (j : Nat) : w.frozen? ⟨b, j, none⟩ = false := by simp [World.frozen?, h.blk]
theorem RdAt.below (h : RdAt w b g cap L i o) (hb : Below w.heap.size w w') : RdAt w' b g cap L i o :=
  { blk := (hb.block b h.bl).trans h.blk, ne := h.ne, gl := Nat.lt_of_lt_of_le h.gl hb.size,
    tok := fun q hq j hj => (hb.cell (p := ⟨g, q * 4 + j, none⟩) h.gl).trans (h.tok q hq j hj), il := h.il, ll := h.ll, ol := h.ol, last := h.last }
theorem RdAt.hd (h : RdAt w b g cap L i o) : hd (L.drop i) = L[i]'h.il := by
  have := List.drop_eq_getElem_cons h.il
  rw [this]; rfl
theorem RdAt.far (h : RdAt w b g cap L i o) (j : Nat) (v : Value) (q : Nat) (hq : q < L.length) (k : Nat) (hk : k < 4) : (w.setCell ⟨b, j, none⟩ v).cell? ⟨g, q * 4 + k, none⟩ = L[q].tk.cells[k]? :=
  (World.cell?_of_block (a := ⟨g, q * 4 + k, none⟩) (Below.heap_setCell _ _ _ _ h.ne)).trans (h.tok q hq k hk)
theorem RdAt.setI (h : RdAt w b g cap L i o) (n : Nat) (hn : n < L.length) : RdAt (w.setCell ⟨b, 1, none⟩ (.int .i64 (n : Int))) b g cap L n o :=
  { blk := Go.Joins.block_setCell h.blk _, ne := h.ne, gl := by simpa using h.gl, tok := fun q hq j hj => h.far _ _ q hq j hj, il := hn, ll := h.ll, ol := h.ol, last := h.last }
theorem RdAt.setO (h : RdAt w b g cap L i o) (n : Nat) (hn : n ≤ 24) : RdAt (w.setCell ⟨b, 2, none⟩ (.int .i64 (n : Int))) b g cap L i n :=
  { blk := Go.Joins.block_setCell h.blk _, ne := h.ne, gl := by simpa using h.gl, tok := fun q hq j hj => h.far _ _ q hq j hj, il := h.il, ll := h.ll, ol := hn, last := h.last }
end
/-- All but the reader's block is as it was. -/
theorem gb_of_below {w w' : World} (hb : Below w.heap.size w w') (b : Nat) : w.grownBy w' (some b) := ⟨hb.os, hb.tape, hb.output, hb.size, fun k hk _ => hb.block k hk⟩
theorem gb_trans {w w' w'' : World} {b : Nat} (h : w.grownBy w' (some b)) (h2 : w'.grownBy w'' (some b)) : w.grownBy w'' (some b) :=
  ⟨h2.os.trans h.os, h2.tape.trans h.tape, h2.output.trans h.output, Nat.le_trans h.size h2.size, fun k hk hne => (h2.block k (Nat.lt_of_lt_of_le hk h.size) hne).trans (h.block k hk hne)⟩
theorem gb_set {w w' : World} {b j : Nat} {v : Value} (h : w.grownBy w' (some b)) : w.grownBy (w'.setCell ⟨b, j, none⟩ v) (some b) :=
  ⟨h.os, h.tape, h.output, by simpa using h.size, fun k hk hne => (Below.heap_setCell _ _ _ _ (fun e => hne (by rw [e]))).trans (h.block k hk hne)⟩
theorem loadTk_mid {w : World} {b o : Nat} (i : Tk) (h : w.rangeAt b o i.cells.toList) : (loadTk ⟨b, o, none⟩).run Tryd.prog w = .ok (.agg i.cells) w := by
  have := run_loadVar_mid (P := Tryd.prog) w b o 41 i.cells.toList _ h Tryd.underlying41 rfl Tryd.sizeTk
  simpa [loadTk] using this
theorem setCells_os (q : Nat) : ∀ (l : List Value) (k : Nat) (w : World), (w.setCells q k l).os = w.os ∧ (w.setCells q k l).tape = w.tape ∧ (w.setCells q k l).output = w.output
  | [], _, _ => ⟨rfl, rfl, rfl⟩
  | v :: r, k, w => by rw [World.setCells]; exact setCells_os q r (k + 1) _
theorem put_far (w : World) (b b' : Nat) (X : Array Value) (hb : b' ≠ b) : (putRow w b X).heap[b']? = w.heap[b']? := by
  rw [putRow_eq]
  generalize X.toList = l
  generalize 0 = k
  induction l generalizing w k with
  | nil => rfl
  | cons v r ih => rw [World.setCells, ih]; exact Below.heap_setCell _ _ _ _ hb
theorem RdAt.same {w w' : World} {b g cap i o : Nat} {L : List Tok} (h : RdAt w b g cap L i o) (hb : w'.heap[b]? = w.heap[b]?) (hg : w'.heap[g]? = w.heap[g]?) (hs : w.heap.size ≤ w'.heap.size) : RdAt w' b g cap L i o :=
  { blk := hb.trans h.blk, ne := h.ne, gl := Nat.lt_of_lt_of_le h.gl hs, tok := fun q hq j hj => (World.cell?_of_block (a := ⟨g, q * 4 + j, none⟩) hg).trans (h.tok q hq j hj), il := h.il, ll := h.ll, ol := h.ol, last := h.last }
theorem RdAt.put {w : World} {b g cap i o : Nat} {L : List Tok} (h : RdAt w b g cap L i o) (q : Nat) (X : Array Value) (hb : b ≠ q) (hg : g ≠ q) : RdAt (putRow w q X) b g cap L i o :=
  h.same (put_far _ _ _ _ hb) (put_far _ _ _ _ hg) (by rw [size_put]; exact Nat.le_refl _)
theorem RdAt.alloc {w : World} {b g cap i o : Nat} {L : List Tok} (h : RdAt w b g cap L i o) (x : Obj) : RdAt (w.alloc x) b g cap L i o := h.below ((Below.refl _ _).alloc (Nat.le_refl _) _)
theorem RdAt.drew {w : World} {b g cap i o : Nat} {L : List Tok} (h : RdAt w b g cap L i o) : RdAt w.drew b g cap L i o := h.below (Below.refl _ _).drew
theorem gb_put {w w' : World} {b q : Nat} {X : Array Value} (h : w.grownBy w' (some b)) (hq : w.heap.size ≤ q) : w.grownBy (putRow w' q X) (some b) :=
  ⟨by rw [putRow_eq]; exact (setCells_os q _ _ _).1.trans h.os, by rw [putRow_eq]; exact (setCells_os q _ _ _).2.1.trans h.tape, by rw [putRow_eq]; exact (setCells_os q _ _ _).2.2.trans h.output, by rw [size_put]; exact h.size, fun k hk hne => (put_far _ _ _ _ (by omega)).trans (h.block k hk hne)⟩
theorem gb_alloc {w w' : World} {b : Nat} (h : w.grownBy w' (some b)) (x : Obj) : w.grownBy (w'.alloc x) (some b) := gb_trans h (gb_of_below ((Below.refl _ _).alloc (Nat.le_refl _) _) b)
theorem gb_drew {w w' : World} {b : Nat} (h : w.grownBy w' (some b)) : w.grownBy w'.drew (some b) := gb_trans h (gb_of_below (Below.refl _ _).drew b)
set_option maxHeartbeats 1000000 in
set_option maxRecDepth 20000 in
theorem here_any (w : World) (b g cap : Nat) (L : List Tok) (i o : Nat) (h : RdAt w b g cap L i o) :
    Calls Tryd.prog 28 #[.pointer (some ⟨b, 0, none⟩)] w fun e w' => e = .returned (.agg (hd (L.drop i)).tk.cells) ∧ Below w.heap.size w w' := by
  have hil := h.il
  have hll := h.ll
  have c0 := h.c0
  have c1 := h.c1
  have t0 := h.tok i h.il 0 (by omega)
  have t1 := h.tok i h.il 1 (by omega)
  have t2 := h.tok i h.il 2 (by omega)
  have t3 := h.tok i h.il 3 (by omega)
  rw [Tk.at0] at t0
  rw [Tk.at1] at t1
  rw [Tk.at2] at t2
  rw [Tk.at3] at t3
  have bl := h.bl
  have gl := h.gl
  have hb1 : (0 : Int) ≤ (i : Int) := by omega
  have hb2 : (i : Int) < (L.length : Int) := by omega
  have ed := h.hd
  obtain ⟨tk, htk⟩ : ∃ tk, tk = (L[i]'h.il).tk := ⟨_, rfl⟩
  rw [← htk] at t0 t1 t2 t3
  have HE : Hid ((hd (L.drop i)).tk = tk) := by show _ = tk; rw [ed, htk]
  clear h ed htk
  go_enter Tryd.func28, Tryd.ntmps28
  go_wp2
  have hld1 : (loadTk ⟨g, i * 4, none⟩).run Tryd.prog ((w.alloc (.cells ({ k := 0, t := ⟨#[]⟩, n := 0, p := 0 } : Tk).cells 41)).drew) = .ok (.agg tk.cells) ((w.alloc (.cells ({ k := 0, t := ⟨#[]⟩, n := 0, p := 0 } : Tk).cells 41)).drew) := loadTk_mid tk (fun j v hv => by
    have hb : Below w.heap.size w ((w.alloc (.cells ({ k := 0, t := ⟨#[]⟩, n := 0, p := 0 } : Tk).cells 41)).drew) := by go_grown
    rw [hb.cell (p := ⟨g, i * 4 + j, none⟩) gl]
    rcases (show j = 0 ∨ j = 1 ∨ j = 2 ∨ j = 3 ∨ 4 ≤ j by omega) with rfl | rfl | rfl | rfl | h4
    · exact t0.trans hv
    · exact t1.trans hv
    · exact t2.trans hv
    · exact t3.trans hv
    · rw [List.getElem?_eq_none (by simpa [Tk.cells] using h4)] at hv; cases hv)
  clear t0 t1 t2 t3
  go_region
  go_wp2
  exact ret_cell1 rfl rfl (loadTk_row (c := tk) (by simp [go_sem])) rfl ⟨by rw [HE.out], by go_grown⟩
theorem wd_kind {t : List Tok} (h : wd t ≠ []) : (hd t).k ≠ 0 := by
  unfold wd at h
  split at h
  · rename_i h2; omega
  · exact absurd rfl h
set_option maxHeartbeats 1000000 in
set_option maxRecDepth 20000 in
theorem word_any (w : World) (b g cap : Nat) (L : List Tok) (i o : Nat) (h : RdAt w b g cap L i o) :
    Calls Tryd.prog 39 #[.pointer (some ⟨b, 0, none⟩)] w fun e w' => e = .returned (.string (bs (wd (L.drop i)))) ∧ Below w.heap.size w w' := by
  have HE := here_any w b g cap L i o h
  have hw : wd (L.drop i) = if (hd (L.drop i)).k = 2 ∨ (hd (L.drop i)).k = 6 then (hd (L.drop i)).t else [] := rfl
  generalize hd (L.drop i) = x at HE hw
  have HW : Hid (wd (L.drop i) = if x.k = 2 ∨ x.k = 6 then x.t else []) := hw
  clear hw h
  by_cases h2 : x.k = 2
  · have k2 : (x.tk.k == 2) = true := by simpa [Tok.tk] using h2
    have HF : Hid (wd (L.drop i) = x.t) := by show _ = _; rw [HW.out, if_pos (Or.inl h2)]
    clear h2 HW
    go_enter Tryd.func39, Tryd.ntmps39
    go_wp2_with (go_at_call 28; refine HE.mono ?_; rintro e w1 ⟨rfl, hb1⟩; have hs1 := hb1.size)
    go_ret
    exact ⟨by rw [HF.out]; rfl, by go_grown⟩
  · have k2 : (x.tk.k == 2) = false := by simpa [Tok.tk] using h2
    by_cases h6 : x.k = 6
    · have k6 : (x.tk.k == 6) = true := by simpa [Tok.tk] using h6
      have HF : Hid (wd (L.drop i) = x.t) := by show _ = _; rw [HW.out, if_pos (Or.inr h6)]
      clear h2 h6 HW
      go_enter Tryd.func39, Tryd.ntmps39
      go_wp2_with (go_at_call 28; refine HE.mono ?_; rintro e w1 ⟨rfl, hb1⟩; have hs1 := hb1.size)
      go_ret
      exact ⟨by rw [HF.out]; rfl, by go_grown⟩
    · have k6 : (x.tk.k == 6) = false := by simpa [Tok.tk] using h6
      have HF : Hid (wd (L.drop i) = []) := by show _ = _; rw [HW.out, if_neg (by omega)]
      clear h2 h6 HW
      go_enter Tryd.func39, Tryd.ntmps39
      go_wp2_with (go_at_call 28; refine HE.mono ?_; rintro e w1 ⟨rfl, hb1⟩; have hs1 := hb1.size)
      go_ret
      exact ⟨by rw [HF.out]; rfl, by go_grown⟩
end Go.Proofs.YtllhcjmabhempaaDoor
