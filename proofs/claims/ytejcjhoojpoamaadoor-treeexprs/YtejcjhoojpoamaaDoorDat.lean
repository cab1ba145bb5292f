/-
  Layer 9, the document's: its reader, how it lies; its small functions.
-/
import Derived.Test.YtejcjhoojpoamaaDoorLit
namespace Go.Proofs.YtejcjhoojpoamaaDoor
set_option linter.unusedVariables false
set_option linter.unusedSimpArgs false
open Go.ChangeShapes Go.WideShapes Go.ChangeAt Go.RowKit
attribute [local go_sem ↓] loadTk_seal storeTk_seal loadKeys_seal loadSigns_seal
attribute [local go_sem] loadTk_run storeTk_run rowAt_at rowAt_old rowAt_drew rowAt_drewN roomTk_new roomAt_old roomAt_drew roomAt_drewN putTk_new Tk.fold putRow_past rowTk_put size_put putRow_drew putRow_drewN alloc_drewN setCell_drewN Tk.at0 Tk.at1 Tk.at2 Tk.at3 Tk.size Tk.set0 Tk.set1 Tk.set2 Tk.set3 Tk.ne rowAt_set rowAt_far roomAt_far
attribute [local go_sem ↓] loadNd_seal storeNd_seal
attribute [local go_sem] loadNd_run storeNd_run roomNd_new putNd_new Nc.fold rowNd_put Nc.at0 Nc.at1 Nc.at2 Nc.at3 Nc.at4 Nc.at5 Nc.size Nc.set0 Nc.set1 Nc.set2 Nc.set3 Nc.set4 Nc.set5 Nc.ne
attribute [local go_sem] fieldTk0 fieldTk3

def drC (g cap : Nat) (L : List Tok) (i : Nat) (o e p : Int) : Array Value := #[.slice (some ⟨g, 0, none⟩) L.length cap, .int .i64 (i : Int), .int .i64 o, .int .i64 e, .int .i64 p]
/-- The document's reader: its block, the tokens' block, the tokens, how many are read, how many things are open, the first error and its place. -/
structure DAt (w : World) (b g cap : Nat) (L : List Tok) (i : Nat) (o e p : Int) : Prop where
  blk : w.heap[b]? = some (.cells (drC g cap L i o e p) 49 (0, 0))
  ne : g ≠ b
  gl : g < w.heap.size
  tok : ∀ q (h : q < L.length), ∀ j, j < 4 → w.cell? ⟨g, q * 4 + j, none⟩ = L[q].tk.cells[j]?
  il : i < L.length
  ll : L.length ≤ 100000
  last : ∀ q (h : q < L.length), L[q].k ≠ 0 → q + 1 < L.length
section
variable {w w' : World} {b g cap i : Nat} {o e p : Int} {L : List Tok}
theorem DAt.bl (h : DAt w b g cap L i o e p) : b < w.heap.size := (Array.getElem?_eq_some_iff.1 h.blk).1
theorem DAt.c0 (h : DAt w b g cap L i o e p) : w.cell? ⟨b, 0, none⟩ = some (.slice (some ⟨g, 0, none⟩) L.length cap) := by simp [World.cell?, h.blk, drC]
theorem DAt.c1 (h : DAt w b g cap L i o e p) : w.cell? ⟨b, 1, none⟩ = some (.int .i64 (i : Int)) := by simp [World.cell?, h.blk, drC]
theorem DAt.c2 (h : DAt w b g cap L i o e p) : w.cell? ⟨b, 2, none⟩ = some (.int .i64 o) := by simp [World.cell?, h.blk, drC]
theorem DAt.c3 (h : DAt w b g cap L i o e p) : w.cell? ⟨b, 3, none⟩ = some (.int .i64 e) := by simp [World.cell?, h.blk, drC]
theorem DAt.c4 (h : DAt w b g cap L i o e p) : w.cell? ⟨b, 4, none⟩ = some (.int .i64 p) := by simp [World.cell?, h.blk, drC]
theorem DAt.fz (h : DAt w b g cap L i o e p) (j : Nat) : w.frozen? ⟨b, j, none⟩ = false := by simp [World.frozen?, h.blk]
theorem DAt.below (h : DAt w b g cap L i o e p) (hb : Below w.heap.size w w') : DAt w' b g cap L i o e p :=
  { blk := (hb.block b h.bl).trans h.blk, ne := h.ne, gl := Nat.lt_of_lt_of_le h.gl hb.size,
    tok := fun q hq j hj => (hb.cell (p := ⟨g, q * 4 + j, none⟩) h.gl).trans (h.tok q hq j hj), il := h.il, ll := h.ll, last := h.last }
theorem DAt.hd (h : DAt w b g cap L i o e p) : hd (L.drop i) = L[i]'h.il := by
  have := List.drop_eq_getElem_cons h.il
  rw [this]; rfl
theorem DAt.far (h : DAt w b g cap L i o e p) (j : Nat) (v : Value) (q : Nat) (hq : q < L.length) (k : Nat) (hk : k < 4) : (w.setCell ⟨b, j, none⟩ v).cell? ⟨g, q * 4 + k, none⟩ = L[q].tk.cells[k]? :=
  (World.cell?_of_block (a := ⟨g, q * 4 + k, none⟩) (Below.heap_setCell _ _ _ _ h.ne)).trans (h.tok q hq k hk)
theorem DAt.setI (h : DAt w b g cap L i o e p) (n : Nat) (hn : n < L.length) : DAt (w.setCell ⟨b, 1, none⟩ (.int .i64 (n : Int))) b g cap L n o e p :=
  { blk := Go.Joins.block_setCell h.blk _, ne := h.ne, gl := by simpa using h.gl, tok := fun q hq j hj => h.far _ _ q hq j hj, il := hn, ll := h.ll, last := h.last }
theorem DAt.setO (h : DAt w b g cap L i o e p) (n : Int) : DAt (w.setCell ⟨b, 2, none⟩ (.int .i64 n)) b g cap L i n e p :=
  { blk := Go.Joins.block_setCell h.blk _, ne := h.ne, gl := by simpa using h.gl, tok := fun q hq j hj => h.far _ _ q hq j hj, il := h.il, ll := h.ll, last := h.last }
theorem DAt.setE (h : DAt w b g cap L i o e p) (n : Int) : DAt (w.setCell ⟨b, 3, none⟩ (.int .i64 n)) b g cap L i o n p :=
  { blk := Go.Joins.block_setCell h.blk _, ne := h.ne, gl := by simpa using h.gl, tok := fun q hq j hj => h.far _ _ q hq j hj, il := h.il, ll := h.ll, last := h.last }
theorem DAt.setP (h : DAt w b g cap L i o e p) (n : Int) : DAt (w.setCell ⟨b, 4, none⟩ (.int .i64 n)) b g cap L i o e n :=
  { blk := Go.Joins.block_setCell h.blk _, ne := h.ne, gl := by simpa using h.gl, tok := fun q hq j hj => h.far _ _ q hq j hj, il := h.il, ll := h.ll, last := h.last }
theorem DAt.same (h : DAt w b g cap L i o e p) (hb : w'.heap[b]? = w.heap[b]?) (hg : w'.heap[g]? = w.heap[g]?) (hs : w.heap.size ≤ w'.heap.size) : DAt w' b g cap L i o e p :=
  { blk := hb.trans h.blk, ne := h.ne, gl := Nat.lt_of_lt_of_le h.gl hs, tok := fun q hq j hj => (World.cell?_of_block (a := ⟨g, q * 4 + j, none⟩) hg).trans (h.tok q hq j hj), il := h.il, ll := h.ll, last := h.last }
theorem DAt.put (h : DAt w b g cap L i o e p) (q : Nat) (X : Array Value) (hb : b ≠ q) (hg : g ≠ q) : DAt (putRow w q X) b g cap L i o e p :=
  h.same (put_far _ _ _ _ hb) (put_far _ _ _ _ hg) (by rw [size_put]; exact Nat.le_refl _)
theorem DAt.alloc (h : DAt w b g cap L i o e p) (x : Obj) : DAt (w.alloc x) b g cap L i o e p := h.below ((Below.refl _ _).alloc (Nat.le_refl _) _)
theorem DAt.drew (h : DAt w b g cap L i o e p) : DAt w.drew b g cap L i o e p := h.below (Below.refl _ _).drew
end
/-- Behind a step of the document's reader. -/
structure Ds (w w' : World) (b g cap : Nat) (L : List Tok) (i : Nat) (o e p : Int) : Prop where
  rd : DAt w' b g cap L i o e p
  gb : w.grownBy w' (some b)
section
variable {w w1 w2 : World} {b g cap i i' : Nat} {o e p o' e' p' : Int} {L : List Tok}
theorem Ds.refl (h : DAt w b g cap L i o e p) : Ds w w b g cap L i o e p := ⟨h, gb_of_below (Below.refl _ _) b⟩
theorem Ds.below (h : Ds w w1 b g cap L i o e p) (hb : Below w1.heap.size w1 w2) : Ds w w2 b g cap L i o e p := ⟨h.rd.below hb, gb_trans h.gb (gb_of_below hb b)⟩
theorem Ds.next (h : Ds w w1 b g cap L i o e p) (h2 : Ds w1 w2 b g cap L i' o' e' p') : Ds w w2 b g cap L i' o' e' p' := ⟨h2.rd, gb_trans h.gb h2.gb⟩
theorem Ds.alloc (h : Ds w w1 b g cap L i o e p) (x : Obj) : Ds w (w1.alloc x) b g cap L i o e p := ⟨h.rd.alloc x, gb_alloc h.gb x⟩
theorem Ds.drew (h : Ds w w1 b g cap L i o e p) : Ds w w1.drew b g cap L i o e p := ⟨h.rd.drew, gb_drew h.gb⟩
theorem Ds.old (h : Ds w w1 b g cap L i o e p) (hb : b < w.heap.size) (hg : g < w.heap.size) (q : Nat) (hq : w.heap.size ≤ q) (X : Array Value) : Ds w (putRow w1 q X) b g cap L i o e p := ⟨h.rd.put q X (by omega) (by omega), gb_put h.gb hq⟩
theorem Ds.size (h : Ds w w1 b g cap L i o e p) : w.heap.size ≤ w1.heap.size := h.gb.size
theorem Ds.row (h : Ds w w1 b g cap L i o e p) {q : Nat} (hq : q < w.heap.size) (hb : q ≠ b) : rowAt w1 q = rowAt w q := by unfold rowAt; rw [h.gb.block q hq (fun e => hb (by injection e))]
theorem Ds.room (h : Ds w w1 b g cap L i o e p) {q : Nat} (hq : q < w.heap.size) (hb : q ≠ b) (n : Nat) : roomAt w1 q n = roomAt w q n := by unfold roomAt; rw [h.gb.block q hq (fun e => hb (by injection e))]
theorem Ds.setO (h : Ds w w1 b g cap L i o e p) (n : Int) : Ds w (w1.setCell ⟨b, 2, none⟩ (.int .i64 n)) b g cap L i n e p := ⟨h.rd.setO n, gb_set h.gb⟩
end
set_option maxHeartbeats 1000000 in
set_option maxRecDepth 20000 in
theorem peek_d (w : World) (b g cap : Nat) (L : List Tok) (i : Nat) (o er p : Int) (h : DAt w b g cap L i o er p) :
    Calls Tryd.prog 39 #[.pointer (some ⟨b, 0, none⟩)] w fun e w' => e = .returned (.agg (hd (L.drop i)).tk.cells) ∧ Below w.heap.size w w' := by
  have hil := h.il
  have hll := h.ll
  have c0 := h.c0
  have c1 := h.c1
  have t0 := h.tok i h.il 0 (by omega)
  have t1 := h.tok i h.il 1 (by omega)
  have t2 := h.tok i h.il 2 (by omega)
  have t3 := h.tok i h.il 3 (by omega)
  rw [Tk.at0] at t0
  rw [Tk.at1] at t1
  rw [Tk.at2] at t2
  rw [Tk.at3] at t3
  have bl := h.bl
  have gl := h.gl
  have hb1 : (0 : Int) ≤ (i : Int) := by omega
  have hb2 : (i : Int) < (L.length : Int) := by omega
  have ed := h.hd
  obtain ⟨tk, htk⟩ : ∃ tk, tk = (L[i]'h.il).tk := ⟨_, rfl⟩
  rw [← htk] at t0 t1 t2 t3
  have HE : Hid ((hd (L.drop i)).tk = tk) := by show _ = tk; rw [ed, htk]
  clear h ed htk
  go_enter Tryd.func39, Tryd.ntmps39
  go_wp2
  have hld1 : (loadTk ⟨g, i * 4, none⟩).run Tryd.prog ((w.alloc (.cells ({ k := 0, t := ⟨#[]⟩, n := 0, p := 0 } : Tk).cells 38)).drew) = .ok (.agg tk.cells) ((w.alloc (.cells ({ k := 0, t := ⟨#[]⟩, n := 0, p := 0 } : Tk).cells 38)).drew) := loadTk_mid tk (fun j v hv => by
    have hb : Below w.heap.size w ((w.alloc (.cells ({ k := 0, t := ⟨#[]⟩, n := 0, p := 0 } : Tk).cells 38)).drew) := by go_grown
    rw [hb.cell (p := ⟨g, i * 4 + j, none⟩) gl]
    rcases (show j = 0 ∨ j = 1 ∨ j = 2 ∨ j = 3 ∨ 4 ≤ j by omega) with rfl | rfl | rfl | rfl | h4
    · exact t0.trans hv
    · exact t1.trans hv
    · exact t2.trans hv
    · exact t3.trans hv
    · rw [List.getElem?_eq_none (by simpa [Tk.cells] using h4)] at hv; cases hv)
  clear t0 t1 t2 t3
  go_region
  go_wp2
  exact ret_cell1 rfl rfl (loadTk_row (c := tk) (by simp [go_sem])) rfl ⟨by rw [HE.out], by go_grown⟩
def sgB (e : Int) (x : Tok) (s : Bs) : Bool := (e == 0) && (x.tk.k == 6) && ((bs x.t).toList == (bs s).toList)
def kyB (e : Int) (x : Tok) (s : Bs) : Bool := (e == 0) && (x.tk.k == 2) && ((bs x.t).toList == (bs s).toList)
def kdB (e : Int) (x : Tok) (k : Int) : Bool := (e == 0) && (x.tk.k == k)
set_option maxHeartbeats 1000000 in
set_option maxRecDepth 20000 in
theorem sign_d (w : World) (b g cap : Nat) (L : List Tok) (i : Nat) (o er p : Int) (h : DAt w b g cap L i o er p) (s : Bs) :
    Calls Tryd.prog 76 #[.pointer (some ⟨b, 0, none⟩), .string (bs s)] w fun e w' => e = .returned (.bool (sgB er (hd (L.drop i)) s)) ∧ Below w.heap.size w w' := by
  have HE : Hid (∀ X, DAt X b g cap L i o er p → Calls Tryd.prog 39 #[.pointer (some ⟨b, 0, none⟩)] X _) := fun X hX => peek_d X b g cap L i o er p hX
  have H : Hid (DAt w b g cap L i o er p) := h
  generalize hd (L.drop i) = x at HE
  have HB : Hid (sgB er x s = ((er == 0) && (x.tk.k == 6) && (x.tk.t.toList == (bs s).toList))) := rfl
  have bl := h.bl
  clear h
  cases h1 : (er == 0)
  · go_enter Tryd.func76, Tryd.ntmps76
    go_wp2_with (go_at_call 39; refine (HE.out _ (by first | exact H.out | exact H.out.alloc _)).mono ?_; rintro e w1 ⟨rfl, hb1⟩; have hs1 := hb1.size; have c3 : w1.cell? ⟨b, 3, none⟩ = _ := (by first | exact (H.out.below hb1).c3 | exact ((H.out.alloc _).below hb1).c3); have hl1 : b < w1.heap.size := (by first | omega | (simp at hs1; omega)))
    go_ret
    exact ⟨by rw [HB.out, h1]; rfl, by go_grown⟩
  · cases h2 : (x.tk.k == 6)
    · go_enter Tryd.func76, Tryd.ntmps76
      go_wp2_with (go_at_call 39; refine (HE.out _ (by first | exact H.out | exact H.out.alloc _)).mono ?_; rintro e w1 ⟨rfl, hb1⟩; have hs1 := hb1.size; have c3 : w1.cell? ⟨b, 3, none⟩ = _ := (by first | exact (H.out.below hb1).c3 | exact ((H.out.alloc _).below hb1).c3); have hl1 : b < w1.heap.size := (by first | omega | (simp at hs1; omega)))
      go_ret
      exact ⟨by rw [HB.out, h1, h2]; rfl, by go_grown⟩
    · cases h3 : (x.tk.t.toList == (bs s).toList)
      all_goals
        go_enter Tryd.func76, Tryd.ntmps76
        go_wp2_with (go_at_call 39; refine (HE.out _ (by first | exact H.out | exact H.out.alloc _)).mono ?_; rintro e w1 ⟨rfl, hb1⟩; have hs1 := hb1.size; have c3 : w1.cell? ⟨b, 3, none⟩ = _ := (by first | exact (H.out.below hb1).c3 | exact ((H.out.alloc _).below hb1).c3); have hl1 : b < w1.heap.size := (by first | omega | (simp at hs1; omega)))
        go_ret
        exact ⟨by rw [HB.out, h1, h2, h3]; rfl, by go_grown⟩
end Go.Proofs.YtejcjhoojpoamaaDoor
