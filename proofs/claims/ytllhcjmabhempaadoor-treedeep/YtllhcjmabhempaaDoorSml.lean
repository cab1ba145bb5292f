/-
  Layer 9: the reader's small functions.
-/
import Derived.Test.YtllhcjmabhempaaDoorRed
namespace Go.Proofs.YtllhcjmabhempaaDoor
set_option linter.unusedVariables false
set_option linter.unusedSimpArgs false
open Go.ChangeShapes Go.WideShapes Go.ChangeAt Go.RowKit



theorem fieldTk0 (c : Tk) (X : World) : (Instr.field 41 (.agg c.cells) 0).run Tryd.prog X = .ok (.int .i64 c.k) X := by kernel_rfl
theorem fieldTk3 (c : Tk) (X : World) : (Instr.field 41 (.agg c.cells) 3).run Tryd.prog X = .ok (.int .i64 c.p) X := by kernel_rfl
attribute [local go_sem] fieldTk0 fieldTk3
/-- What a reader gives up by. -/
structure Fa where
  p : Int
  e : Int
def Fa.cells (c : Fa) : Array Value := #[.int .i64 c.p, .int .i64 c.e]
theorem Fa.size (c : Fa) : c.cells.size = 2 := rfl
theorem Fa.ne (c : Fa) : (c.cells = #[]) = False := by simp [Fa.cells]
theorem Fa.at0 (c : Fa) : c.cells[0]? = some (.int .i64 c.p) := rfl
theorem Fa.at1 (c : Fa) : c.cells[1]? = some (.int .i64 c.e) := rfl
theorem Fa.set0 (c : Fa) (x : Int) : c.cells.setIfInBounds 0 (.int .i64 x) = { c with p := x }.cells := rfl
theorem Fa.set1 (c : Fa) (x : Int) : c.cells.setIfInBounds 1 (.int .i64 x) = { c with e := x }.cells := rfl
theorem Fa.fold (p e : Int) : #[.int .i64 p, .int .i64 e] = ({ p := p, e := e } : Fa).cells := rfl
def loadFa (a : Addr) : Sem Value := loadVar 52 a
theorem loadFa_seal (a : Addr) : loadVar 52 a = loadFa a := rfl
theorem Tryd.sizeFa : (Tryd.prog.info? 52).map (·.size) = some 2 := by kernel_rfl
def storeFa (a : Addr) (v : Value) : Sem Unit := storeVar 52 a v
theorem storeFa_seal (a : Addr) (v : Value) : storeVar 52 a v = storeFa a v := rfl
theorem storeFa_run (w : World) (b : Nat) (c : Fa) (h : roomAt w b 2 = true) : (storeFa ⟨b, 0, none⟩ (.agg c.cells)).run Tryd.prog w = .ok () (putRow w b c.cells) := by
  rw [putRow_eq]; exact run_storeVar_mid w b 0 52 c.cells (room_there h) Tryd.sizeFa (by simp [Fa.cells, Value.oneCell'])
theorem loadFa_row {w : World} {b : Nat} {c : Fa} (h : rowAt w b = some c.cells) : (loadVar 52 ⟨b, 0, none⟩).run Tryd.prog w = .ok (.agg c.cells) w := by
  have := run_loadVar_mid (P := Tryd.prog) w b 0 52 c.cells.toList _ (fun j v hv => by rw [Nat.zero_add, rowAt_cell h]; simpa using hv) Tryd.underlying52 rfl Tryd.sizeFa
  simpa using this
theorem roomFa_new (w : World) (c : Fa) (t : TypeId) (k : Nat) (hk : k = w.heap.size) : roomAt (w.alloc (.cells c.cells t)) k 2 = true := roomAt_new w _ t _ k hk rfl
theorem rowFa_put (w : World) (b : Nat) (c : Fa) (h : roomAt w b 2 = true) : rowAt (putRow w b c.cells) b = some c.cells := rowAt_put h
theorem putFa_new (w : World) (t : TypeId) (c d : Fa) (k : Nat) (hk : k = w.heap.size) : putRow (w.alloc (.cells d.cells t)) k c.cells = w.alloc (.cells c.cells t) := putRow_new w t _ _ k hk rfl
attribute [local go_sem ↓] loadFa_seal storeFa_seal
attribute [local go_sem] storeFa_run roomFa_new rowFa_put putFa_new Fa.fold Fa.set0 Fa.set1 Fa.size Fa.ne Fa.at0 Fa.at1
def faultC (p : Nat) (e : Int) : Array Value := ({ p := (p : Int), e := e } : Fa).cells
def gaveUp (p : Nat) (e : Int) : Ending := .panicked [{ v := .iface 52 (.agg (faultC p e)), recovered := false }]
set_option maxHeartbeats 1000000 in
set_option maxRecDepth 20000 in
theorem fault_any (w : World) (b g cap : Nat) (L : List Tok) (i o : Nat) (h : RdAt w b g cap L i o) (er : Int) :
    Calls Tryd.prog 29 #[.pointer (some ⟨b, 0, none⟩), .int .i64 er] w fun e w' => e = .returned (.agg (faultC (hd (L.drop i)).p er)) ∧ Below w.heap.size w w' := by
  have HE : Hid (∀ X, Below w.heap.size w X → Calls Tryd.prog 28 #[.pointer (some ⟨b, 0, none⟩)] X _) := fun X hX => here_any X b g cap L i o (h.below hX)
  generalize hd (L.drop i) = x at HE
  clear h
  go_enter Tryd.func29, Tryd.ntmps29
  go_wp2_with (go_at_call 28; refine (HE.out _ (by go_grown)).mono ?_; rintro e w1 ⟨rfl, hb1⟩; have hs1 := hb1.size; simp at hs1; have p0 : roomAt w1 w.heap.size 2 = true := (roomAt_below hb1 _ _ (by simp)).trans (roomFa_new _ _ _ _ rfl); have hB : Hid (Below w.heap.size w w1) := (by go_grown : Below w.heap.size w (w.alloc (.cells ({ p := 0, e := 0 } : Fa).cells 52))).trans (hb1.mono (by simp)))
  exact ret_cell1 rfl rfl (loadFa_row (rowFa_put _ _ _ p0)) rfl ⟨rfl, below_put hB.out _ (Nat.le_refl _) _⟩
/-- Behind a step of the reader: where it stands, and that all else is as it was. -/
structure St (w w' : World) (b g cap : Nat) (L : List Tok) (i o : Nat) : Prop where
  rd : RdAt w' b g cap L i o
  gb : w.grownBy w' (some b)
section
variable {w w1 w2 : World} {b g cap i o i' o' : Nat} {L : List Tok}
theorem St.refl (h : RdAt w b g cap L i o) : St w w b g cap L i o := ⟨h, gb_of_below (Below.refl _ _) b⟩
theorem St.below (h : St w w1 b g cap L i o) (hb : Below w1.heap.size w1 w2) : St w w2 b g cap L i o := ⟨h.rd.below hb, gb_trans h.gb (gb_of_below hb b)⟩
theorem St.next (h : St w w1 b g cap L i o) (h2 : St w1 w2 b g cap L i' o') : St w w2 b g cap L i' o' := ⟨h2.rd, gb_trans h.gb h2.gb⟩
theorem St.alloc (h : St w w1 b g cap L i o) (x : Obj) : St w (w1.alloc x) b g cap L i o := ⟨h.rd.alloc x, gb_alloc h.gb x⟩
theorem St.drew (h : St w w1 b g cap L i o) : St w w1.drew b g cap L i o := ⟨h.rd.drew, gb_drew h.gb⟩
theorem St.old (h : St w w1 b g cap L i o) (hb : b < w.heap.size) (hg : g < w.heap.size) (q : Nat) (hq : w.heap.size ≤ q) (X : Array Value) : St w (putRow w1 q X) b g cap L i o := ⟨h.rd.put q X (by omega) (by omega), gb_put h.gb hq⟩
theorem St.size (h : St w w1 b g cap L i o) : w.heap.size ≤ w1.heap.size := h.gb.size
theorem St.row (h : St w w1 b g cap L i o) {q : Nat} (hq : q < w.heap.size) (hb : q ≠ b) : rowAt w1 q = rowAt w q := by unfold rowAt; rw [h.gb.block q hq (fun e => hb (by injection e))]
theorem St.room (h : St w w1 b g cap L i o) {q : Nat} (hq : q < w.heap.size) (hb : q ≠ b) (n : Nat) : roomAt w1 q n = roomAt w q n := by unfold roomAt; rw [h.gb.block q hq (fun e => hb (by injection e))]
end
set_option maxHeartbeats 1000000 in
set_option maxRecDepth 20000 in
theorem pass_any (w : World) (b g cap : Nat) (L : List Tok) (i o : Nat) (h : RdAt w b g cap L i o) (hk : (hd (L.drop i)).k ≠ 0) :
    Calls Tryd.prog 52 #[.pointer (some ⟨b, 0, none⟩)] w fun e w' => e = .returned (.agg (hd (L.drop i)).tk.cells) ∧ St w w' b g cap L (i + 1) o := by
  have HE : Hid (∀ X, Below w.heap.size w X → Calls Tryd.prog 28 #[.pointer (some ⟨b, 0, none⟩)] X _) := fun X hX => here_any X b g cap L i o (h.below hX)
  have hn : i + 1 < L.length := h.last i h.il (by rw [← h.hd]; exact hk)
  have hll := h.ll
  have H : Hid (RdAt w b g cap L i o) := h
  have bl := h.bl
  clear h hk
  generalize hd (L.drop i) = x at HE
  go_enter Tryd.func52, Tryd.ntmps52
  go_wp2_with (go_at_call 28; refine (HE.out _ (by go_grown)).mono ?_; rintro e w1 ⟨rfl, hb1⟩; have hs1 := hb1.size; simp at hs1; have hB : Below w.heap.size w w1 := (by go_grown : Below w.heap.size w (w.alloc (.cells ({ k := 0, t := ⟨#[]⟩, n := 0, p := 0 } : Tk).cells 41))).trans (hb1.mono (by simp)); have R1 : Hid (RdAt w1 b g cap L i o) := H.out.below hB; have bl1 := R1.out.bl; have hl1 : w.heap.size < w1.heap.size := (by omega); have hn1 : w.heap.size ≠ b := (by omega); have c1 := R1.out.c1; have fz := R1.out.fz; have p0 : roomAt w1 w.heap.size 4 = true := (roomAt_below hb1 _ _ (by simp)).trans (roomTk_new _ _ _ _ rfl))
  have R2 := ((R1.out.setI (i + 1) hn).put w.heap.size x.tk.cells (by omega) (by have := H.out.gl; omega)).alloc (.cells x.tk.cells 41)
  exact ret_cell1 rfl rfl (loadTk_row (c := x.tk) ((rowAt_old _ _ _ (by rw [size_put]; simp; omega)).trans (rowTk_put _ _ _ ((roomAt_far _ _ _ _ _ (by simpa using hn1)).trans p0)))) rfl ⟨rfl, by simpa using R2, gb_alloc (gb_put (gb_set (gb_of_below hB b)) (Nat.le_refl _)) _⟩
theorem str_ne {a b : Bs} (h : a ≠ b) : ((bs a).toList == (bs b).toList) = false := by rw [Lib.toList_data, Lib.toList_data, bs_data, bs_data]; simpa using h
theorem str_same (a : Bs) : ((bs a).toList == (bs a).toList) = true := by simp
set_option maxHeartbeats 1000000 in
set_option maxRecDepth 20000 in
theorem found_yes (w : World) (b g cap : Nat) (L : List Tok) (i o : Nat) (h : RdAt w b g cap L i o) (s : Bs) (hs : s ≠ []) (hw : wd (L.drop i) = s) :
    Calls Tryd.prog 32 #[.pointer (some ⟨b, 0, none⟩), .string (bs s)] w fun e w' => e = .returned (.bool true) ∧ St w w' b g cap L (i + 1) o := by
  have WA := word_any w b g cap L i o h
  have hk : (hd (L.drop i)).k ≠ 0 := wd_kind (by rw [hw]; exact hs)
  have PA : Hid (∀ X, RdAt X b g cap L i o → Calls Tryd.prog 52 #[.pointer (some ⟨b, 0, none⟩)] X _) := fun X hX => pass_any X b g cap L i o hX hk
  have H : Hid (RdAt w b g cap L i o) := h
  rw [hw] at WA
  have e1 := str_same s
  clear h hk hw hs
  go_enter Tryd.func32, Tryd.ntmps32
  go_wp2_with (first | (go_at_call 39; refine WA.mono ?_; rintro e w1 ⟨rfl, hb1⟩; have R1 : Hid (RdAt w1 b g cap L i o) := H.out.below hb1) | (go_at_call 52; refine (PA.out _ R1.out).mono ?_; rintro e w2 ⟨rfl, s2⟩))
  go_ret
  exact ⟨rfl, ((St.refl H.out).below hb1).next s2⟩
set_option maxHeartbeats 1000000 in
set_option maxRecDepth 20000 in
theorem found_no (w : World) (b g cap : Nat) (L : List Tok) (i o : Nat) (h : RdAt w b g cap L i o) (s : Bs) (hw : wd (L.drop i) ≠ s) :
    Calls Tryd.prog 32 #[.pointer (some ⟨b, 0, none⟩), .string (bs s)] w fun e w' => e = .returned (.bool false) ∧ Below w.heap.size w w' := by
  have WA := word_any w b g cap L i o h
  have e1 := str_ne hw
  clear h hw
  generalize wd (L.drop i) = u at WA e1
  go_enter Tryd.func32, Tryd.ntmps32
  go_wp2_with (go_at_call 39; refine WA.mono ?_; rintro e w1 ⟨rfl, hb1⟩)
  go_ret
  exact ⟨rfl, hb1⟩
set_option maxHeartbeats 1000000 in
set_option maxRecDepth 20000 in
theorem must_yes (w : World) (b g cap : Nat) (L : List Tok) (i o : Nat) (h : RdAt w b g cap L i o) (s : Bs) (hs : s ≠ []) (hw : wd (L.drop i) = s) :
    Calls Tryd.prog 30 #[.pointer (some ⟨b, 0, none⟩), .string (bs s)] w fun e w' => e = .returned (.agg (hd (L.drop i)).tk.cells) ∧ St w w' b g cap L (i + 1) o := by
  have WA : Hid (∀ X, RdAt X b g cap L i o → Calls Tryd.prog 39 #[.pointer (some ⟨b, 0, none⟩)] X _) := fun X hX => word_any X b g cap L i o hX
  have hk : (hd (L.drop i)).k ≠ 0 := wd_kind (by rw [hw]; exact hs)
  have PA : Hid (∀ X, RdAt X b g cap L i o → Calls Tryd.prog 52 #[.pointer (some ⟨b, 0, none⟩)] X _) := fun X hX => pass_any X b g cap L i o hX hk
  have H : Hid (RdAt w b g cap L i o) := h
  rw [hw] at WA
  have e1 := str_same s
  have bl := h.bl
  have gl := h.gl
  clear h hk hw hs
  generalize hd (L.drop i) = x at PA ⊢
  go_enter Tryd.func30, Tryd.ntmps30
  go_wp2_with (first | (go_at_call 39; refine (WA.out _ (H.out.alloc _)).mono ?_; rintro e w1 ⟨rfl, hb1⟩; have R1 : Hid (St w w1 b g cap L i o) := ((St.refl H.out).alloc _).below hb1; have p1 : roomAt w1 w.heap.size 4 = true := (roomAt_below hb1 _ _ (by simp)).trans (roomTk_new _ _ _ _ rfl); have hs1 := hb1.size; simp at hs1) | (go_at_call 52; refine (PA.out _ R1.out.rd).mono ?_; rintro e w2 ⟨rfl, s2⟩; have p2 : roomAt w2 w.heap.size 4 = true := (s2.room (by omega) (by omega) 4).trans p1))
  exact ret_cell1 rfl rfl (loadTk_row (c := x.tk) (rowTk_put _ _ _ p2)) rfl ⟨rfl, (R1.out.next s2).old bl gl _ (Nat.le_refl _) _⟩
set_option maxHeartbeats 1000000 in
set_option maxRecDepth 20000 in
theorem must_no (w : World) (b g cap : Nat) (L : List Tok) (i o : Nat) (h : RdAt w b g cap L i o) (s : Bs) (hw : wd (L.drop i) ≠ s) :
    Calls Tryd.prog 30 #[.pointer (some ⟨b, 0, none⟩), .string (bs s)] w fun e w' => e = gaveUp (hd (L.drop i)).p 90 ∧ w.grownBy w' (some b) := by
  have WA : Hid (∀ X, RdAt X b g cap L i o → Calls Tryd.prog 39 #[.pointer (some ⟨b, 0, none⟩)] X _) := fun X hX => word_any X b g cap L i o hX
  have FA : Hid (∀ X, RdAt X b g cap L i o → Calls Tryd.prog 29 #[.pointer (some ⟨b, 0, none⟩), .int .i64 90] X _) := fun X hX => fault_any X b g cap L i o hX 90
  have H : Hid (RdAt w b g cap L i o) := h
  have e1 := str_ne hw
  clear h hw
  generalize wd (L.drop i) = u at WA e1
  generalize (hd (L.drop i)).p = q at FA ⊢
  go_enter Tryd.func30, Tryd.ntmps30
  go_wp2_with (first | (go_at_call 39; refine (WA.out _ (H.out.alloc _)).mono ?_; rintro e w1 ⟨rfl, hb1⟩; have R1 : Hid (St w w1 b g cap L i o) := ((St.refl H.out).alloc _).below hb1) | (go_at_call 29; refine (FA.out _ R1.out.rd).mono ?_; rintro e w2 ⟨rfl, hb2⟩))
  exact ⟨rfl, rfl, (R1.out.below hb2).gb⟩
end Go.Proofs.YtllhcjmabhempaaDoor
