/-
  The laws' own same and shown: rows of tokens are compared; the document's example holds.
-/
import Derived.Test.YtphogfomlmjeiaaDoorAll
namespace Go.Proofs.YtphogfomlmjeiaaDoor
set_option linter.unusedVariables false
set_option linter.unusedSimpArgs false
open Go.ChangeShapes Go.WideShapes Go.ChangeAt Go.RowKit
attribute [local go_sem ↓] loadTk_seal storeTk_seal loadKeys_seal loadSigns_seal
attribute [local go_sem] loadTk_run storeTk_run rowAt_at rowAt_old rowAt_drew rowAt_drewN roomTk_new roomAt_old roomAt_drew roomAt_drewN putTk_new Tk.fold putRow_past rowTk_put size_put putRow_drew putRow_drewN alloc_drewN setCell_drewN Tk.at0 Tk.at1 Tk.at2 Tk.at3 Tk.size Tk.set0 Tk.set1 Tk.set2 Tk.set3 Tk.ne rowAt_set rowAt_far roomAt_far

def eqlTk (x y : Value) : Sem Value := binOp .eql 29 x y
theorem eqlTk_seal (x y : Value) : binOp .eql 29 x y = eqlTk x y := rfl
def neqTk (x y : Value) : Sem Value := binOp .neq 29 x y
theorem neqTk_seal (x y : Value) : binOp .neq 29 x y = neqTk x y := rfl
theorem eqlTk_same (a b : Tk) (h : a = b) (w : World) : (eqlTk (.agg a.cells) (.agg b.cells)).run Tryd.prog w = .ok (.bool true) w := by
  subst h
  unfold eqlTk
  simp [go_sem, Tryd.underlying29]
theorem neqTk_same (a b : Tk) (h : a = b) (w : World) : (neqTk (.agg a.cells) (.agg b.cells)).run Tryd.prog w = .ok (.bool false) w := by
  subst h
  unfold neqTk
  simp [go_sem, Tryd.underlying29]
/-- A token lies at a place. -/
def TkAt (w : World) (b o : Nat) (c : Tk) : Prop := ∀ j v, c.cells[j]? = some v → w.cell? ⟨b, o + j, none⟩ = some v
theorem TkAt.load {w : World} {b o : Nat} {c : Tk} (h : TkAt w b o c) : (loadTk ⟨b, o, none⟩).run Tryd.prog w = .ok (.agg c.cells) w :=
  run_loadVar_mid (P := Tryd.prog) w b o 29 c.cells.toList _ (fun j v hv => h j v (by simpa using hv)) Tryd.underlying29 rfl (by rw [Array.length_toList, Tk.size]; exact Tryd.sizeTk)
theorem TkAt.lt {w : World} {b o : Nat} {c : Tk} (h : TkAt w b o c) : b < w.heap.size := World.block_lt_of_cell? w _ (h 0 _ rfl)
theorem TkAt.below {w w' : World} {b o : Nat} {c : Tk} (h : TkAt w b o c) (hb : Below w.heap.size w w') : TkAt w' b o c := fun j v hv => (hb.cell (p := ⟨b, _, none⟩) h.lt).trans (h j v hv)
theorem TkAt.drewN {w : World} {b o : Nat} {c : Tk} (h : TkAt w b o c) (n : Nat) : TkAt (w.drewN n) b o c := h
theorem TkAt.cells {w : World} {b o : Nat} {c : Tk} (h : TkAt w b o c) : w.cell? ⟨b, o, none⟩ = some (.int .i64 c.k) ∧ w.cell? ⟨b, o + 1, none⟩ = some (.string c.t) ∧ w.cell? ⟨b, o + 2, none⟩ = some (.int .i64 c.n) ∧ w.cell? ⟨b, o + 3, none⟩ = some (.int .i64 c.p) :=
  ⟨h 0 _ rfl, h 1 _ rfl, h 2 _ rfl, h 3 _ rfl⟩
/-- A row of tokens that may be read. -/
def RdT (w : World) (a : Option Addr) (d : List Tok) : Prop := d.length ≤ 1000000 ∧ ∀ i (h : i < d.length), ∃ b off, a = some ⟨b, off, none⟩ ∧ TkAt w b (off + i * 4) d[i].tk
theorem RdT.below {w w' : World} {a : Option Addr} {d : List Tok} (h : RdT w a d) (hb : Below w.heap.size w w') : RdT w' a d := ⟨h.1, fun i hi => by obtain ⟨b, off, e, t⟩ := h.2 i hi; exact ⟨b, off, e, t.below hb⟩⟩
/-- A row of tokens of the call's own, as it may be read. -/
theorem own_rdt {w : World} {B : Nat} {v : Value} {d : List Tok} (h : w.ownsRow B 29 4 v d.length (tokC d)) (hd : d.length ≤ 1000000) : ∃ a c, v = .slice a d.length c ∧ RdT w a d := by
  rcases h.2 with ⟨rfl, h0⟩ | ⟨g, cap, cur, rfl, hb, hg, hc, _, hs, ht⟩
  · rw [h0]; exact ⟨none, 0, rfl, hd, fun i hi => by omega⟩
  · refine ⟨_, cap, rfl, hd, fun i hi => ⟨g, 0, rfl, fun j u hu => ?_⟩⟩
    have hj : j < 4 := by have := (Array.getElem?_eq_some_iff.1 hu).1; rwa [Tk.size] at this
    have h1 := tokC_at d i j hi hj
    rw [hu, ← ht, List.getElem?_take, if_pos (by omega)] at h1
    rw [Nat.zero_add, show w.cell? ⟨g, i * 4 + j, none⟩ = cur[i * 4 + j]? by simp [World.cell?, hg]]
    simpa using h1
attribute [local go_sem ↓] eqlTk_seal neqTk_seal
set_option maxHeartbeats 1000000 in
theorem same_any (d : List Tok) (a a' : Option Addr) (c c' : Nat) (w : World) (h : RdT w a d) (h' : RdT w a' d) : Calls Tryd.prog 10 #[.slice a d.length c, .slice a' d.length c'] w fun e w' => e = .returned (.bool true) ∧ ∃ n, w' = w.drewN n := by
  have hd := h.1
  have H1 : Hid (∀ i (h : i < d.length), ∃ b off, a = some ⟨b, off, none⟩ ∧ TkAt w b (off + i * 4) d[i].tk) := h.2
  have H2 : Hid (∀ i (h : i < d.length), ∃ b off, a' = some ⟨b, off, none⟩ ∧ TkAt w b (off + i * 4) d[i].tk) := h'.2
  clear h h'
  go_enter Tryd.func10, Tryd.ntmps10
  go_wp2
  go_loopg [4, 5] d.length (fun gf s4 s5 wx => ∃ i n : Nat, s4 = .bool false ∧ s5 = .int .i64 (i : Int) ∧ i + gf = d.length ∧ wx = w.drewN n)
  case atStart => exact ⟨0, 0, rfl, rfl, by omega, by rw [World.drewN_zero]⟩
  case round =>
    obtain ⟨i, n, rfl, rfl, hi, hww⟩ := hrel
    obtain rfl := hww
    by_cases hlt : i < d.length
    · obtain ⟨g', rfl⟩ : ∃ g', gk = g' + 1 := ⟨gk - 1, by omega⟩
      have d0 : decide ((i : Int) < (d.length : Int)) = true := by simp; omega
      obtain ⟨b1, o1, rfl, t1⟩ := H1.out i hlt
      obtain ⟨b2, o2, rfl, t2⟩ := H2.out i hlt
      generalize d[i].tk = T at t1 t2
      have L1 : ∀ n, (loadTk ⟨b1, o1 + i * 4, none⟩).run Tryd.prog (w.drewN n) = .ok (.agg T.cells) (w.drewN n) := fun n => (t1.drewN n).load
      have L2 : ∀ n, (loadTk ⟨b2, o2 + i * 4, none⟩).run Tryd.prog (w.drewN n) = .ok (.agg T.cells) (w.drewN n) := fun n => (t2.drewN n).load
      have NE := neqTk_same T T rfl
      clear H1 H2 t1 t2
      go_wp2
      go_region
      go_wp2
      go_roundg g'
      case measure => omega
      case rel => exact ⟨i + 1, n + 1, rfl, by simp, by omega, rfl⟩
    · have d0 : decide ((i : Int) < (d.length : Int)) = false := by simp; omega
      clear H1 H2
      go_wp2
      go_ret
      exact ⟨rfl, n, rfl⟩
def shownL : Bs := [120, 32, 58, 61, 32, 48, 70, 70, 72, 59, 32, 40, 42, 32, 97, 32, 40, 42, 32, 98, 32, 42, 41, 32, 42, 41]
def shownT : List Tok := [⟨1, [120], 0, 0⟩, ⟨6, [58, 61], 0, 2⟩, ⟨3, [], 255, 5⟩, ⟨6, [59], 0, 9⟩, ⟨0, [], 0, 26⟩]
theorem shown_all : allP shownL = ⟨shownT, 0, 0⟩ := by kernel_rfl
theorem own_at {w : World} {B : Nat} {v : Value} {d : List Tok} (h : w.ownsRow B 29 4 v d.length (tokC d)) (hd : d ≠ []) : ∃ g c, v = .slice (some ⟨g, 0, none⟩) d.length c ∧ B ≤ g ∧ g < w.heap.size ∧ ∀ i (hi : i < d.length), TkAt w g (i * 4) d[i].tk := by
  rcases h.2 with ⟨rfl, h0⟩ | ⟨g, cap, cur, rfl, hb, hg, hc, _, hs, ht⟩
  · exact absurd (List.eq_nil_of_length_eq_zero h0) hd
  · refine ⟨g, cap, rfl, hb, (Array.getElem?_eq_some_iff.1 hg).1, fun i hi j u hu => ?_⟩
    have hj : j < 4 := by have := (Array.getElem?_eq_some_iff.1 hu).1; rwa [Tk.size] at this
    have h1 := tokC_at d i j hi hj
    rw [hu, ← ht, List.getElem?_take, if_pos (by omega)] at h1
    rw [show w.cell? ⟨g, i * 4 + j, none⟩ = cur[i * 4 + j]? by simp [World.cell?, hg]]
    simpa using h1
def LdTk (w : World) (b o : Nat) (c : Tk) : Prop := (loadTk ⟨b, o, none⟩).run Tryd.prog w = .ok (.agg c.cells) w
theorem shown_row (w : World) (V : Vars w) : Calls Tryd.prog 8 #[.string { data := #[120, 32, 58, 61, 32, 48, 70, 70, 72, 59, 32, 40, 42, 32, 97, 32, 40, 42, 32, 98, 32, 42, 41, 32, 42, 41] }] w fun e w' => ∃ g c, e = .returned (.tuple #[.slice (some ⟨g, 0, none⟩) 5 c, .int .i64 0, .int .i64 0]) ∧ LdTk w' g 0 (Tk.mk 1 ⟨#[120]⟩ 0 0) ∧ LdTk w' g 4 (Tk.mk 6 ⟨#[58, 61]⟩ 0 2) ∧ LdTk w' g 8 (Tk.mk 3 ⟨#[]⟩ 255 5) ∧ LdTk w' g 16 (Tk.mk 0 ⟨#[]⟩ 0 26) ∧ Below w.heap.size w w' := by
  have h := all_any shownL w V
  rw [shown_all] at h
  refine h.mono fun e w' ⟨v, he, ho, hb⟩ => ?_
  obtain ⟨g, c, rfl, _, _, ht⟩ := own_at ho (by simp [shownT])
  exact ⟨g, c, he, (ht 0 (by decide)).load, (ht 1 (by decide)).load, (ht 2 (by decide)).load, (ht 4 (by decide)).load, hb⟩
set_option maxHeartbeats 1000000 in
theorem shown_any (w : World) (V : Vars w) : Calls Tryd.prog 11 #[] w fun e w' => e = .returned (.bool true) ∧ Below w.heap.size w w' := by
  have E0 := eqlTk_same (Tk.mk 1 ⟨#[120]⟩ 0 0) _ rfl
  have E1 := eqlTk_same (Tk.mk 6 ⟨#[58, 61]⟩ 0 2) _ rfl
  have E2 := eqlTk_same (Tk.mk 3 ⟨#[]⟩ 255 5) _ rfl
  have E4 := eqlTk_same (Tk.mk 0 ⟨#[]⟩ 0 26) _ rfl
  have AL : Hid (Calls Tryd.prog 8 #[.string { data := #[120, 32, 58, 61, 32, 48, 70, 70, 72, 59, 32, 40, 42, 32, 97, 32, 40, 42, 32, 98, 32, 42, 41, 32, 42, 41] }] w _) := shown_row w V
  clear V
  go_enter Tryd.func11, Tryd.ntmps11
  go_wp2_with (go_at_call 8; refine AL.out.mono ?_; rintro e w1 ⟨g, c, rfl, L0, L1, L2, L4, hb⟩; unfold LdTk at L0 L1 L2 L4)
  go_ret
  exact ⟨rfl, hb⟩
end Go.Proofs.YtphogfomlmjeiaaDoor
