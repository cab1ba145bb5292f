/-
  The document's layer 6: the word that a line says.
  The document's layer 6: the word that a line says: the walk.
  The document's layer 6: Parse.
  The walk of the law AsmParses: it returns true.
-/
import Derived.Test.YtmldlkcgaepaaaaGreatDoorMD9
import Derived.Test.YtmldlkcgaepaaaaGreatDoorMD10
namespace Go.Proofs.YtmldlkcgaepaaaaGreatDoor
set_option linter.unusedVariables false
set_option linter.unusedSimpArgs false
open Go.ChangeShapes Go.WideShapes Go.ChangeAt Go.RowKit
attribute [local go_sem ↓] loadIn_seal storeIn_seal
attribute [local go_sem] loadIn_run storeIn_run rowAt_at rowAt_old rowAt_drew rowAt_drewN roomCpu_new roomIn_new roomAt_old roomAt_drew roomAt_drewN putCpu_new putIn_new Cp.zero_fold In.fold putRow_past rowCpu_put rowIn_put size_put putRow_drew putRow_drewN alloc_drewN setCell_drewN Cp.at16 Cp.at17 Cp.at18 Cp.at19 Cp.at20 Cp.at21 Cp.size Cp.set16 Cp.set17 Cp.set18 Cp.set19 Cp.set20 Cp.set21 In.at0 In.at1 In.at2 In.at3 In.at4 In.at5 In.at6 In.at7 In.size In.set0 In.set1 In.set2 In.set3 In.ne Cp.ne In.set4 In.set5 In.set6 In.set7

def namesOnce : Bool := (List.range 55).all fun j => (List.range 55).all fun k => !((formsL.getD j ⟨[], mkI 0 0 false false, 0, false⟩).name == (formsL.getD k ⟨[], mkI 0 0 false false, 0, false⟩).name) || j == k
theorem names_once : namesOnce = true := by kernel_rfl
theorem forms_len : formsL.length = 55 := by kernel_rfl
theorem name_once {j k : Nat} (hj : j < formsL.length) (hk : k < formsL.length) (h : formsL[j].name = formsL[k].name) : j = k := by
  have hj5 : j < 55 := by rw [← forms_len]; exact hj
  have hk5 : k < 55 := by rw [← forms_len]; exact hk
  have := List.all_eq_true.1 (List.all_eq_true.1 names_once j (by simpa using hj5)) k (by simpa using hk5)
  have ej : formsL.getD j ⟨[], mkI 0 0 false false, 0, false⟩ = formsL[j]'hj := by rw [List.getD, List.getElem?_eq_getElem hj]; rfl
  have ek : formsL.getD k ⟨[], mkI 0 0 false false, 0, false⟩ = formsL[k]'hk := by rw [List.getD, List.getElem?_eq_getElem hk]; rfl
  rw [ej, ek, h] at this
  simpa using this
theorem find_form (name : Bs) {k : Nat} (hk : k < formsL.length) (h : formsL[k].name = name) : (formsL.find? fun f => f.name == name) = some formsL[k] := by
  cases hf : formsL.find? fun f => f.name == name with
  | none =>
    have := List.find?_eq_none.1 hf formsL[k] (List.getElem_mem hk)
    simp [h] at this
  | some f =>
    have hn := List.find?_some hf
    obtain ⟨j, hj, e⟩ := List.getElem_of_mem (List.mem_of_find?_eq_some hf)
    simp only [beq_iff_eq] at hn
    have : j = k := name_once hj hk (by rw [e, hn, h])
    subst this
    rw [e]
theorem find_none (name : Bs) (h : ∀ f ∈ formsL, f.name ≠ name) : (formsL.find? fun f => f.name == name) = none := by
  rw [List.find?_eq_none]
  intro f hf
  simpa using h f hf
/-- No form up to k of that name is read. -/
def NoneTo (name : Bs) (l : List Bs) (k : Nat) : Prop := ∀ j (hj : j < formsL.length), j < k → formsL[j].name = name → readD formsL[j] l = none
theorem none_all {name : Bs} {l : List Bs} {a : Int} (hb : branchD name l a = none) (h : NoneTo name l 55) : instrD name l a = none := by
  unfold instrD
  rw [hb]
  cases hf : formsL.find? fun f => f.name == name with
  | none => simp [hf]
  | some f =>
    have hn := List.find?_some hf
    obtain ⟨j, hj, e⟩ := List.getElem_of_mem (List.mem_of_find?_eq_some hf)
    simp only [beq_iff_eq] at hn
    have := h j hj (by rw [forms_len] at hj; omega) (by rw [e]; exact hn)
    rw [e] at this
    simp [this]
theorem none_some {name : Bs} {l : List Bs} {a : Int} {k : Nat} {i : In} (hb : branchD name l a = none) (hk : k < formsL.length) (hn : formsL[k].name = name) (hr : readD formsL[k] l = some i) : instrD name l a = some i := by
  unfold instrD
  rw [hb, find_form name hk hn]
  simp [hr]
def okFmB (f : Fm) : Bool := (f.regs == 0 && f.last) || (f.regs == 1 && !f.last) || (f.regs == 1 && f.last) || (f.regs == 2 && f.last)
theorem forms_ok' : (formsL.all okFmB) = true := by kernel_rfl
theorem form_ok {k : Nat} (hk : k < formsL.length) : okFm formsL[k] := by
  have := List.all_eq_true.1 forms_ok' formsL[k] (List.getElem_mem hk)
  simp only [okFmB, Bool.or_eq_true, Bool.and_eq_true, beq_iff_eq, Bool.not_eq_true'] at this
  unfold okFm
  rcases this with ((h | h) | h) | h
  · exact .inl h
  · exact .inr (.inl h)
  · exact .inr (.inr (.inl h))
  · exact .inr (.inr (.inr h))
theorem fmC_at : ∀ (l : List Fm) (k : Nat) (hk : k < l.length) (j : Nat) (v : Value), (fmA l[k])[j]? = some v → (fmC l)[k * 11 + j]? = some v
  | f :: r, 0, hk, j, v, h => by
    have hj : j < 11 := by
      have := (Array.getElem?_eq_some_iff.1 h).1
      rw [fmA_size] at this; exact this
    rw [fmC, Nat.zero_mul, Nat.zero_add, List.getElem?_append_left (by simpa [fmA_size] using hj)]
    simpa using h
  | f :: r, k + 1, hk, j, v, h => by
    rw [fmC, List.getElem?_append_right (by simp [fmA_size]; omega)]
    have := fmC_at r k (by simpa using hk) j v (by simpa using h)
    rw [show (k + 1) * 11 + j - (fmA f).toList.length = k * 11 + j by simp [fmA_size]; omega]
    exact this
def loadFm (a : Addr) : Sem Value := loadVar 65 a
theorem loadFm_seal (a : Addr) : loadVar 65 a = loadFm a := rfl
theorem Tryz.sizeFm : (Tryz.prog.info? 65).map (·.size) = some 11 := by kernel_rfl
theorem loadFm_at {w : World} {b o : Nat} (f : Fm) (h : w.rangeAt b o (fmA f).toList) : (loadFm ⟨b, o, none⟩).run Tryz.prog w = .ok (.agg (fmA f)) w := by
  have := run_loadVar_mid (P := Tryz.prog) w b o 65 (fmA f).toList _ h Tryz.underlying65 rfl Tryz.sizeFm
  simpa [loadFm] using this
theorem own_fm {w : World} {B g c : Nat} (ho : w.ownsRow B 65 11 (.slice (some ⟨g, 0, none⟩) 55 c) 55 (fmC formsL)) (k : Nat) (hk : k < formsL.length) : w.rangeAt g (k * 11) (fmA formsL[k]).toList := by
  intro j v hv
  have h1 := fmC_at formsL k hk j v (by simpa using hv)
  have := World.ownsRow.cells ho (g := g) rfl _ v h1
  rwa [show (⟨g, 0, none⟩ : Addr).add (k * 11 + j) = ⟨g, k * 11 + j, none⟩ by simp [Addr.add]; omega] at this
end Go.Proofs.YtmldlkcgaepaaaaGreatDoor

namespace Go.Proofs.YtmldlkcgaepaaaaGreatDoor
set_option linter.unusedVariables false
set_option linter.unusedSimpArgs false
open Go.ChangeShapes Go.WideShapes Go.ChangeAt Go.RowKit
attribute [local go_sem ↓] loadIn_seal storeIn_seal
attribute [local go_sem] loadIn_run storeIn_run rowAt_at rowAt_old rowAt_drew rowAt_drewN roomCpu_new roomIn_new roomAt_old roomAt_drew roomAt_drewN putCpu_new putIn_new Cp.zero_fold In.fold putRow_past rowCpu_put rowIn_put size_put putRow_drew putRow_drewN alloc_drewN setCell_drewN Cp.at16 Cp.at17 Cp.at18 Cp.at19 Cp.at20 Cp.at21 Cp.size Cp.set16 Cp.set17 Cp.set18 Cp.set19 Cp.set20 Cp.set21 In.at0 In.at1 In.at2 In.at3 In.at4 In.at5 In.at6 In.at7 In.size In.set0 In.set1 In.set2 In.set3 In.ne Cp.ne In.set4 In.set5 In.set6 In.set7
attribute [local go_sem ↓] loadFm_seal
theorem opsD_len (s : Bs) : (opsD s).length ≤ s.length + 1 ∧ ∀ x ∈ opsD s, x.length ≤ s.length := by
  have hr : (restD s).length ≤ s.length := Nat.le_trans (trim_le _) (by rw [List.length_drop]; omega)
  unfold opsD
  split
  · simp
  · rw [List.length_map]
    refine ⟨Nat.le_trans (parts_len 44 _) (by omega), fun x hx => ?_⟩
    obtain ⟨y, hy, rfl⟩ := List.mem_map.1 hx
    exact Nat.le_trans (Nat.le_trans (trim_le y) (parts_sub 44 _ y hy)) hr
theorem room_put8 {X : World} {q : Nat} (h : roomAt X q 8 = true) (c : In) : roomAt (putRow X q c.cells) q 8 = true := by
  unfold roomAt at h
  split at h
  · rename_i Y t fr hb
    simp only [Bool.and_eq_true, beq_iff_eq] at h
    rw [putRow_eq]
    unfold roomAt
    rw [setCells_heap _ _ _ _ hb, putList_all c.cells Y (by rw [h.1]; rfl)]
    simp [h.2, In.cells]
  · cases h
/-- The instruction's row beside all that the walk holds. -/
structure WAt (w X : World) (q gf cf : Nat) (v : Value) (l : List Bs) (i : In) : Prop where
  row : rowAt X q = some i.cells
  room : roomAt X q 8 = true
  frm : X.ownsRow w.heap.size 65 11 (.slice (some ⟨gf, 0, none⟩) 55 cf) 55 (fmC formsL)
  ops : X.ownsRow w.heap.size 9 1 v l.length (strs l)
  ne : gf ≠ q ∧ v.ownBlock ≠ some q ∧ w.heap.size ≤ q
  bel : Below w.heap.size w X
theorem own_put {X : World} {B : Nat} {e : TypeId} {k : Nat} {v : Value} {n : Nat} {xs : List Value} (h : X.ownsRow B e k v n xs) (q : Nat) (hq : v.ownBlock ≠ some q) (Z : Array Value) : (putRow X q Z).ownsRow B e k v n xs := by
  refine ⟨h.1, ?_⟩
  rcases h.2 with hn | ⟨g, cap, cur, hv, hb1, hg, rest⟩
  · exact .inl hn
  · refine .inr ⟨g, cap, cur, hv, hb1, ?_, rest⟩
    rw [hv] at hq
    have hne : g ≠ q := fun e => hq (by rw [e]; rfl)
    rw [put_far _ _ _ _ hne]
    exact hg
theorem WAt.call {w X Y : World} {q gf cf : Nat} {v : Value} {l : List Bs} {i : In} (h : WAt w X q gf cf v l i) (hb : Below X.heap.size X Y) : WAt w Y q gf cf v l i :=
  ⟨(rowAt_below hb _ (row_lt h.row)).trans h.row, (roomAt_below hb _ _ (row_lt h.row)).trans h.room, own_call h.frm hb, own_call h.ops hb, h.ne, h.bel.trans (hb.mono h.bel.size)⟩
theorem WAt.put {w X : World} {q gf cf : Nat} {v : Value} {l : List Bs} {i : In} (h : WAt w X q gf cf v l i) (i' : In) : WAt w (putRow X q i'.cells) q gf cf v l i' :=
  ⟨rowIn_put _ _ _ h.room, room_put8 h.room i', own_put h.frm q (by simp only [Value.ownBlock]; intro e; injection e with e; exact h.ne.1 e) _, own_put h.ops q h.ne.2.1 _, h.ne, below_put h.bel _ h.ne.2.2 _⟩
theorem own_blk_lt {X : World} {B : Nat} {e : TypeId} {k : Nat} {v : Value} {n : Nat} {xs : List Value} (h : X.ownsRow B e k v n xs) {q : Nat} (hq : X.heap.size ≤ q) : v.ownBlock ≠ some q := by
  rcases h.2 with ⟨hv, _⟩ | ⟨g, cap, cur, hv, _, hg, _⟩
  · rw [hv]; simp [Value.ownBlock]
  · rw [hv]
    have := (Array.getElem?_eq_some_iff.1 hg).1
    simp only [Value.ownBlock]
    intro e; injection e with e; omega
theorem own_mono {w : World} {B B' : Nat} {e : TypeId} {k : Nat} {v : Value} {n : Nat} {xs : List Value} (hB : B' ≤ B) (h : w.ownsRow B e k v n xs) : w.ownsRow B' e k v n xs := by
  refine ⟨h.1, ?_⟩
  rcases h.2 with hn | ⟨g, cap, cur, hv, hb1, rest⟩
  · exact .inl hn
  · exact .inr ⟨g, cap, cur, hv, Nat.le_trans hB hb1, rest⟩
theorem own_fm55 {w : World} {B : Nat} {v : Value} (ho : w.ownsRow B 65 11 v 55 (fmC formsL)) : ∃ g c, v = .slice (some ⟨g, 0, none⟩) 55 c ∧ B ≤ g ∧ g < w.heap.size := by
  rcases ho.2 with ⟨_, h⟩ | ⟨g, cap, cur, rfl, h1, h2, _⟩
  · cases h
  · exact ⟨_, _, rfl, h1, (Array.getElem?_eq_some_iff.1 h2).1⟩
set_option maxHeartbeats 4000000 in
set_option maxRecDepth 20000 in
theorem rword_word (s : Bs) (a : Int) (w : World) (hl : s.length ≤ 65536) (hw : nameD s = wordT) :
    Calls Tryz.prog 14 #[.string (bs s), .int .u32 a] w fun e w' => ∃ x, e = .returned (.tuple #[.int .u32 x, .bool (wordD s a).isSome]) ∧ (∀ y, wordD s a = some y → x = y) ∧ Below w.heap.size w w' := by
  have OP : Hid (∀ X, Calls Tryz.prog 27 #[.string (bs s)] X _) := fun X => roperands_any s X hl
  have hnm : ((bs (nameD s)).toList == [87, 79, 82, 68]) = true := by rw [hw, Lib.toList_data, bs_data]; rfl
  obtain ⟨l, hle⟩ : ∃ l, l = opsD s := ⟨_, rfl⟩
  have HW : Hid (wordD s a = digitsP l) := by show _ = _; rw [wordD, if_pos hw, hle]
  have hlen := opsD_len s
  rw [← hle] at OP hlen
  clear hle hw
  generalize nameD s = nm at OP hnm
  by_cases h1 : l.length = 1
  · obtain ⟨t, rfl⟩ : ∃ t, l = [t] := by
      match l, h1 with
      | [t], _ => exact ⟨t, rfl⟩
    have ht := hlen.2 t (by simp)
    have UN : Hid (∀ X, Calls Tryz.prog 28 #[.string (bs t)] X _) := fun X => runhex_any (bs t) X (by rw [bs_size]; unfold maxLen; omega)
    have HD : Hid ((digitsP [t]).isSome = (unE (bs t) == 0) ∧ ∀ y, digitsP [t] = some y → unV (bs t) = y) := by
      show _ ∧ _
      simp only [digitsP, unE]
      split
      · exact ⟨rfl, fun y h => by injection h⟩
      · exact ⟨rfl, fun y h => by cases h⟩
    generalize unV (bs t) = uv at UN HD
    generalize unE (bs t) = ue at UN HD
    clear h1
    go_enter Tryz.func14, Tryz.ntmps14
    go_wp2_with (first
      | (go_at_call 27; refine (OP.out _).mono ?_; rintro e w1 ⟨v, rfl, ho, hb⟩; obtain ⟨g, c, rfl, _, hg⟩ := own_some ho (by simp); have c0 := strs_cell ho 0 (by simp); have HB : Hid (Below w.heap.size w w1) := hb; clear hb ho)
      | (go_at_call 28; refine (UN.out _).mono ?_; rintro e w' ⟨rfl, hw⟩; obtain rfl := hw.symm; clear hw))
    go_ret2
    exact ⟨uv, by rw [HW.out, HD.out.1]; rfl, fun y h => HD.out.2 y (by rw [← HW.out]; exact h), HB.out⟩
  · have HN : Hid (wordD s a = none) := by
      show _ = none
      rw [HW.out]
      unfold digitsP
      split
      · simp at h1
      · rfl
    have hne : ((l.length : Int) != 1) = true := by simp; omega
    clear HW
    go_enter Tryz.func14, Tryz.ntmps14
    go_wp2_with (go_at_call 27; refine (OP.out _).mono ?_; rintro e w1 ⟨v, rfl, ho, hb⟩; obtain ⟨sa, sc, rfl⟩ := own_sl9 ho; have HB : Hid (Below w.heap.size w w1) := hb; clear hb ho)
    go_ret2
    exact ⟨0, by rw [HN.out]; rfl, (fun y h => by rw [HN.out] at h; cases h), HB.out⟩
set_option maxHeartbeats 4000000 in
set_option maxRecDepth 20000 in
theorem rword_instr (s : Bs) (a : Int) (w : World) (hl : s.length ≤ 65536) (hw : nameD s ≠ wordT) :
    Calls Tryz.prog 14 #[.string (bs s), .int .u32 a] w fun e w' => ∃ x, e = .returned (.tuple #[.int .u32 x, .bool (wordD s a).isSome]) ∧ (∀ y, wordD s a = some y → x = y) ∧ Below w.heap.size w w' := by
  have OP : Hid (∀ X, Calls Tryz.prog 27 #[.string (bs s)] X _) := fun X => roperands_any s X hl
  have hnm : ((bs (nameD s)).toList == [87, 79, 82, 68]) = false := by rw [Lib.toList_data, bs_data]; exact beq_eq_false_iff_ne.2 hw
  obtain ⟨l, hle⟩ : ∃ l, l = opsD s := ⟨_, rfl⟩
  obtain ⟨nm, hne⟩ : ∃ nm, nm = nameD s := ⟨_, rfl⟩
  have HW : Hid (wordD s a = wordI nm l a) := by show _ = _; rw [wordD, if_neg hw, hle, hne]
  have hlen := opsD_len s
  rw [← hle] at OP hlen
  rw [← hne] at OP hnm
  have HL : Hid (l.length ≤ 65537 ∧ ∀ x ∈ l, x.length ≤ 65536) := ⟨by omega, fun x hx => Nat.le_trans (hlen.2 x hx) hl⟩
  have HFO : Hid (∀ X, Calls Tryz.prog 30 #[] X _) := rforms_any
  clear hle hne hw hlen
  go_enter Tryz.func14, Tryz.ntmps14
  go_wp2_with (first
    | (go_at_call 30; refine (HFO.out _).mono ?_; rintro e w3 ⟨v3, rfl, ho3, hb3⟩; obtain ⟨gf, cf, rfl, hf1, hf2⟩ := own_fm55 ho3)
    | (go_at_call 29; refine (rbranch_all nm l w.heap.size v a _ HO.out HL.out.1 HL.out.2).mono ?_; rintro e w2 ⟨i, rfl, hi, hb2⟩)
    | (go_at_call 27; refine (OP.out _).mono ?_; rintro e w1 ⟨v, rfl, ho, hb⟩; have HO : Hid (w1.ownsRow w.heap.size 9 1 v l.length (strs l)) := ho; have HB : Hid (Below w.heap.size w w1) := hb; clear hb ho))
  have W0 : WAt w w3 w2.heap.size gf cf v l i := by
    have b2 : Below w2.heap.size w2 (w2.alloc (.cells i.cells 52)) := by go_grown
    have bw2 : Below w.heap.size w w2 := HB.out.trans (hb2.mono HB.out.size)
    have hs3 : w2.heap.size + 1 ≤ gf := by simpa using hf1
    exact ⟨(rowAt_below hb3 _ (by simp)).trans (rowAt_at _ _ _ _ _ rfl), (roomAt_below hb3 _ _ (by simp)).trans (roomIn_new _ _ _ _ rfl),
      own_mono (Nat.le_trans bw2.size (by simp)) ho3, own_call (own_call (own_call HO.out hb2) b2) hb3, ⟨by omega, own_blk_lt (own_call HO.out hb2) (Nat.le_refl _), bw2.size⟩,
      (bw2.trans (b2.mono bw2.size)).trans (hb3.mono (Nat.le_trans bw2.size (by simp)))⟩
  obtain ⟨ok, hok⟩ : ∃ ok, ok = (branchD nm l a).isSome := ⟨_, rfl⟩
  have H0 : Hid ((ok = true ∧ instrD nm l a = some i) ∨ (ok = false ∧ branchD nm l a = none ∧ NoneTo nm l 0)) := by
    show _ ∨ _
    rw [hok]
    cases hbr : branchD nm l a with
    | none => exact .inr ⟨rfl, rfl, fun j hj h => by omega⟩
    | some j => exact .inl ⟨rfl, by rw [hi j hbr]; unfold instrD; rw [hbr]⟩
  rw [← hok]
  clear hok hi hb2 hb3 ho3 hf1 hf2 HO HB HFO OP
  generalize w2.heap.size = q at W0 ⊢
  go_loopw [11, 13] (fun s11 x wr => ∃ (k : Nat) (ok : Bool) (i : In), k ≤ 55 ∧ x = .int .i64 k ∧ s11 = .bool ok ∧ WAt w wr q gf cf v l i ∧ ((ok = true ∧ instrD nm l a = some i) ∨ (ok = false ∧ branchD nm l a = none ∧ NoneTo nm l k))) (fun _ x _ => 55 - (intOf x).toNat)
  case atStart => exact ⟨0, ok, i, by omega, rfl, rfl, W0, H0.out⟩
  case round =>
    obtain ⟨k, ok', i', hk, rfl, rfl, A, hst⟩ := hrel
    clear W0 H0
    have HA : Hid (WAt w wr q gf cf v l i') := A
    have r0 := A.row
    have r4 := A.room
    clear A
    rcases hst with ⟨rfl, hin⟩ | ⟨rfl, hbr, hno⟩
    · have RE := rencode_any i' wr
      have HQ : Hid ((wordD s a).isSome = (encE i' == 0) ∧ ∀ y, wordD s a = some y → encW i' = y) := by
        show _ ∧ _
        rw [HW.out, wordI, hin, Option.bind_some]
        unfold encE encW
        split
        · exact ⟨rfl, fun y h => by injection h⟩
        · exact ⟨rfl, fun y h => by cases h⟩
      generalize encE i' = ee at RE HQ
      generalize encW i' = ew at RE HQ
      clear hin HW
      by_cases hlt : k < 55
      · have hd : decide ((k : Int) < 55) = true := by simp; omega
        go_wp2_with (go_at_call 32; refine RE.mono ?_; rintro e w' ⟨rfl, hb9⟩)
        go_ret2
        exact ⟨ew, by rw [HQ.out.1]; rfl, HQ.out.2, HA.out.bel.trans (hb9.mono HA.out.bel.size)⟩
      · have hd : decide ((k : Int) < 55) = false := by simp; omega
        go_wp2_with (go_at_call 32; refine RE.mono ?_; rintro e w' ⟨rfl, hb9⟩)
        go_ret2
        exact ⟨ew, by rw [HQ.out.1]; rfl, HQ.out.2, HA.out.bel.trans (hb9.mono HA.out.bel.size)⟩
    · by_cases hlt : k < 55
      · have hd : decide ((k : Int) < 55) = true := by simp; omega
        have hkl : k < formsL.length := by rw [forms_len]; exact hlt
        have hrg := own_fm HA.out.frm k hkl
        have hc1 : wr.cell? ⟨gf, k * 11, none⟩ = some (.string (bs formsL[k].name)) := hrg 0 _ rfl
        have hld := loadFm_at formsL[k] hrg
        have RD := rread_any formsL[k] (form_ok hkl) l w.heap.size v wr HA.out.ops HL.out.1 HL.out.2
        have HNo : Hid (branchD nm l a = none ∧ NoneTo nm l k) := ⟨hbr, hno⟩
        have HFk : Hid (∀ f : Fm, f = formsL[k] → ((f.name = nm → readD f l = none) → NoneTo nm l (k + 1)) ∧ ∀ j, f.name = nm → readD f l = some j → instrD nm l a = some j) := by
          show ∀ f : Fm, _
          rintro f rfl
          refine ⟨fun h j hj hjk he => ?_, fun j hn hr => none_some hbr hkl hn hr⟩
          by_cases e : j = k
          · subst e; exact h he
          · exact hno j hj (by omega) he
        clear hrg hbr hno
        obtain ⟨f, hf⟩ : ∃ f, f = formsL[k] := ⟨_, rfl⟩
        have HF := HFk.out f hf
        rw [← hf] at hc1 hld RD
        clear HFk hf
        have HF2 : Hid _ := HF
        clear HF
        have hix1 : (k : Int) * 11 = ((k * 11 : Nat) : Int) := by simp
        by_cases hn : f.name = nm
        · have heq : ((bs f.name).toList == (bs nm).toList) = true := by rw [hn]; simp
          go_wp2_with (go_at_call 31; refine RD.mono ?_; rintro e w5 ⟨i5, rfl, hi5, hb5⟩; have A5 := HA.out.call hb5; have p5 := A5.room)
          refine ⟨⟨k + 1, (readD f l).isSome, i5, by omega, by go_num, rfl, A5.put i5, ?_⟩, by simp [intOf]; omega⟩
          cases hr : readD f l with
          | none => exact .inr ⟨rfl, HNo.out.1, HF2.out.1 fun _ => hr⟩
          | some j => exact .inl ⟨rfl, by rw [hi5 j hr]; exact HF2.out.2 j hn hr⟩
        · have heq : ((bs f.name).toList == (bs nm).toList) = false := by
            rw [Lib.toList_data, Lib.toList_data, bs_data, bs_data]
            simpa using hn
          have HN2 : Hid (NoneTo nm l (k + 1)) := HF2.out.1 fun e => absurd e hn
          clear RD hn
          go_wp2
          go_roundw
          case rel => exact ⟨k + 1, false, i', by omega, by go_num, rfl, HA.out, .inr ⟨rfl, HNo.out.1, HN2.out⟩⟩
          case measure => simp [intOf]; omega
      · have hd : decide ((k : Int) < 55) = false := by simp; omega
        have HN : Hid (wordD s a = none) := by
          show _ = none
          have e : k = 55 := by omega
          subst e
          rw [HW.out, wordI, none_all hbr hno]; rfl
        clear hbr hno HW
        go_wp2
        go_ret2
        exact ⟨0, by rw [HN.out]; rfl, (fun y h => by rw [HN.out] at h; cases h), HA.out.bel⟩
theorem rword_any (s : Bs) (a : Int) (w : World) (hl : s.length ≤ 65536) :
    Calls Tryz.prog 14 #[.string (bs s), .int .u32 a] w fun e w' => ∃ x, e = .returned (.tuple #[.int .u32 x, .bool (wordP s a).isSome]) ∧ (∀ y, wordP s a = some y → x = y) ∧ Below w.heap.size w w' := by
  rw [word_same]
  by_cases hw : nameD s = wordT
  · exact rword_word s a w hl hw
  · exact rword_instr s a w hl hw
end Go.Proofs.YtmldlkcgaepaaaaGreatDoor

namespace Go.Proofs.YtmldlkcgaepaaaaGreatDoor
set_option linter.unusedVariables false
set_option linter.unusedSimpArgs false
open Go.ChangeShapes Go.WideShapes Go.ChangeAt Go.RowKit
attribute [local go_sem ↓] loadIn_seal storeIn_seal
attribute [local go_sem] loadIn_run storeIn_run rowAt_at rowAt_old rowAt_drew rowAt_drewN roomCpu_new roomIn_new roomAt_old roomAt_drew roomAt_drewN putCpu_new putIn_new Cp.zero_fold In.fold putRow_past rowCpu_put rowIn_put size_put putRow_drew putRow_drewN alloc_drewN setCell_drewN Cp.at16 Cp.at17 Cp.at18 Cp.at19 Cp.at20 Cp.at21 Cp.size Cp.set16 Cp.set17 Cp.set18 Cp.set19 Cp.set20 Cp.set21 In.at0 In.at1 In.at2 In.at3 In.at4 In.at5 In.at6 In.at7 In.size In.set0 In.set1 In.set2 In.set3 In.ne Cp.ne In.set4 In.set5 In.set6 In.set7

theorem cur_next10 {T : Bs} {f i : Nat} (hf : f ≤ i) (h : (10 : UInt8) ∉ (T.drop f).take (i - f)) (hc : T[i]? ≠ some 10) : (10 : UInt8) ∉ (T.drop f).take (i + 1 - f) := by
  rw [show i + 1 - f = (i - f) + 1 by omega, List.take_add_one, List.getElem?_drop, show f + (i - f) = i by omega]
  intro hm
  rcases List.mem_append.1 hm with h1 | h1
  · exact h h1
  · exact hc (by simpa using h1)
theorem drop_nl10 {T : Bs} {f i : Nat} (hf : f ≤ i) (hc : T[i]? = some 10) : T.drop f = (T.drop f).take (i - f) ++ 10 :: T.drop (i + 1) := by
  have h1 := List.take_append_drop (i - f) (T.drop f)
  rw [List.drop_drop, show f + (i - f) = i by omega] at h1
  have hi : i < T.length := (List.getElem?_eq_some_iff.1 hc).1
  have h2 : T.drop i = 10 :: T.drop (i + 1) := by
    rw [List.drop_eq_getElem_cons hi, (List.getElem?_eq_some_iff.1 hc).2]
  rw [h2] at h1
  exact h1.symm
theorem said_le (l : Bs) : (saidP l).length ≤ l.length := by
  have h1 := trim_len (cutB [59].contains l)
  have h2 := cutB_len [59].contains l
  show (trimP (cutB [59].contains l)).length ≤ _
  omega
def PStA (T : Bs) (E : Pe) (B : Nat) (wx : World) (i : Nat) (s5 s6 s7 : Value) : Prop := ∃ (n f : Nat) (ws : List Int), s6 = .int .i64 ((n : Int) + 1) ∧ s7 = .int .i64 (f : Int) ∧ wx.ownsRow B 28 1 s5 ws.length (ints ws) ∧ f ≤ i ∧ i ≤ T.length ∧ goP (parts 10 (T.drop f)) n ws = E ∧ (10 : UInt8) ∉ (T.drop f).take (i - f) ∧ n ≤ f ∧ ws.length ≤ f
def PStB (T : Bs) (E : Pe) (B : Nat) (wx : World) (i : Nat) (s5 : Value) : Prop := i = T.length + 1 ∧ ∃ ws : List Int, wx.ownsRow B 28 1 s5 ws.length (ints ws) ∧ E = .words ws
theorem infoU32' : (Tryz.prog.info? 28).map (fun i => (i.zero, i.size, i.bytes)) = some (some (.int .u32 0), 1, 4) := by kernel_rfl
theorem ints_sn (ws : List Int) (x : Int) : ints (ws ++ [x]) = ints ws ++ [.int .u32 x] := by simp [ints]
set_option maxHeartbeats 4000000 in
set_option maxRecDepth 20000 in
theorem rparse_any (T : Bs) (w : World) (ht : T.length ≤ 9223372036854775807) : Calls Tryz.prog 5 #[.string (bs T)] w fun e w' => ∃ v, e = .returned (.tuple #[v, .int .i64 (parseN T), .int .i64 (parseE T)]) ∧ w'.ownsRow w.heap.size 28 1 v (parseW T).length (ints (parseW T)) ∧ Below w.heap.size w w' := by
  have hz : (bs T).size = T.length := bs_size T
  by_cases h : 65536 < T.length
  · have HE : Hid (parseW T = [] ∧ parseN T = 0 ∧ parseE T = 60) := by
      show _ ∧ _ ∧ _
      unfold parseW parseN parseE
      rw [if_pos h, if_pos h, if_pos h]; exact ⟨rfl, rfl, rfl⟩
    have hd : decide ((65536 : Int) < (T.length : Int)) = true := by simp; omega
    go_enter Tryz.func5, Tryz.ntmps5
    go_wp2
    go_ret3
    exact ⟨.slice none 0 0, by rw [HE.out.2.1, HE.out.2.2]; rfl, by rw [HE.out.1]; exact World.ownsRow_nil _ _ _ _, Below.refl _ _⟩
  · have hd : decide ((65536 : Int) < (T.length : Int)) = false := by simp; omega
    obtain ⟨E, hE⟩ : ∃ E, E = goP (parts 10 T) 0 [] := ⟨_, rfl⟩
    have HE : Hid (parseW T = peW E ∧ parseN T = peN E ∧ parseE T = peE E) := by
      show _ ∧ _ ∧ _
      unfold parseW parseN parseE
      rw [if_neg h, if_neg h, if_neg h, hE]
      cases goP (parts 10 T) 0 [] <;> exact ⟨rfl, rfl, rfl⟩
    have HG : Hid (goP (parts 10 T) 0 [] = E) := hE.symm
    clear hE
    obtain ⟨i0, hi0, hz0, hz1, hz2⟩ := info_parts infoU32'
    go_enter Tryz.func5, Tryz.ntmps5
    go_wp2
    go_loopg [5, 6, 7, 8] (T.length + 2) (fun gf s5 s6 s7 s8 wx => ∃ i : Nat, s8 = .int .i64 i ∧ T.length + 2 ≤ i + gf ∧ (PStA T E w.heap.size wx i s5 s6 s7 ∨ PStB T E w.heap.size wx i s5) ∧ Below w.heap.size w wx)
    case atStart => exact ⟨0, rfl, by omega, .inl ⟨0, 0, [], rfl, rfl, World.ownsRow_nil _ _ _ _, by omega, by omega, HG.out, by simp, by omega, by simp⟩, Below.refl _ _⟩
    case round =>
      obtain ⟨i, rfl, hg, hst, hbel⟩ := hrel
      have hsz := hbel.size
      clear HG
      rcases hst with ⟨n, f, ws, rfl, rfl, hown, hfi, hiT, hgo, hcur, hnf, hwf⟩ | ⟨rfl, ws, hown, hEw⟩
      · obtain ⟨g', rfl⟩ : ∃ g', gk = g' + 1 := ⟨gk - 1, by omega⟩
        have hdi : decide ((i : Int) ≤ (T.length : Int)) = true := by simp; omega
        by_cases hnl : i < T.length ∧ T[i]? ≠ some 10
        · have hlt := hnl.1
          have hd5 : decide ((i : Int) < (T.length : Int)) = true := by simp; omega
          have hatT : ∀ h, (bs T)[i]'h = T[i] := fun h => bs_at T i h hlt
          have hch : (((T[i]).toNat : Int) != 10) = true := by
            have : (T[i]).toNat ≠ 10 := fun e => hnl.2 (by rw [List.getElem?_eq_getElem hlt, UInt8.toNat_inj.1 (show (T[i]).toNat = (10 : UInt8).toNat by rw [e]; rfl)])
            simp; omega
          have HS : Hid (wr.ownsRow w.heap.size 28 1 u5 ws.length (ints ws) ∧ goP (parts 10 (T.drop f)) n ws = E ∧ (10 : UInt8) ∉ (T.drop f).take (i + 1 - f)) := ⟨hown, hgo, cur_next10 hfi hcur hnl.2⟩
          clear hown hgo hcur hnl
          go_wp2
          go_roundg g'
          case measure => omega
          case rel => exact ⟨i + 1, by go_num, by omega, .inl ⟨n, f, ws, rfl, rfl, HS.out.1, by omega, by omega, HS.out.2.1, HS.out.2.2, hnf, hwf⟩, hbel⟩
        · obtain ⟨z, hzz⟩ : ∃ z, z = (T.drop f).take (i - f) := ⟨_, rfl⟩
          have hcut : (bs T).extract f i = bs z := by rw [bs_cut, hzz]
          have hzl : z.length ≤ 65536 := by rw [hzz, List.length_take, List.length_drop]; omega
          have BA : Hid (∀ X, Calls Tryz.prog 13 #[.string (bs z)] X _) := fun X => rbare_any z X (by omega)
          obtain ⟨R, hR⟩ : ∃ R, parts 10 (T.drop f) = z :: R ∧ ((i = T.length ∧ R = []) ∨ (i < T.length ∧ R = parts 10 (T.drop (i + 1)))) := by
            by_cases hend : i = T.length
            · refine ⟨[], ?_, .inl ⟨hend, rfl⟩⟩
              have e : (T.drop f).take (i - f) = T.drop f := List.take_of_length_le (by rw [List.length_drop]; omega)
              rw [hzz, e]
              rw [e] at hcur
              exact parts_free hcur
            · have hlt : i < T.length := by omega
              have hc : T[i]? = some 10 := by
                by_cases h9 : T[i]? = some 10
                · exact h9
                · exact absurd ⟨hlt, h9⟩ hnl
              refine ⟨parts 10 (T.drop (i + 1)), ?_, .inr ⟨hlt, rfl⟩⟩
              rw [hzz, drop_nl10 hfi hc, parts_app _ hcur]
              congr 1
              rw [← drop_nl10 hfi hc]
          rw [hR.1, goP] at hgo
          have hguard : (decide ((i : Int) < (T.length : Int)) = false ∧ decide (i < T.length) = false ∧ ¬ i < T.length) ∨ (decide ((i : Int) < (T.length : Int)) = true ∧ ∃ hlt : i < T.length, (((T[i]).toNat : Int) != 10) = false) := by
            by_cases hend : i = T.length
            · left; exact ⟨by simp; omega, by simp; omega, by omega⟩
            · right
              have hlt : i < T.length := by omega
              have hc : T[i]? = some 10 := by
                by_cases h9 : T[i]? = some 10
                · exact h9
                · exact absurd ⟨hlt, h9⟩ hnl
              refine ⟨by simp; omega, hlt, ?_⟩
              rw [List.getElem?_eq_getElem hlt] at hc
              injection hc with hc
              rw [hc]; rfl
          have hsl : (saidP z).length ≤ 65536 := Nat.le_trans (said_le z) hzl
          have HO : Hid (wr.ownsRow w.heap.size 28 1 u5 ws.length (ints ws)) := hown
          have HR : Hid ((i = T.length ∧ R = []) ∨ (i < T.length ∧ R = parts 10 (T.drop (i + 1)))) := hR.2
          have HNX : Hid (∀ (wy : World) (v : Value) (ys : List Int), ys.length ≤ i + 1 → wy.ownsRow w.heap.size 28 1 v ys.length (ints ys) → goP R (n + 1) ys = E → PStA T E w.heap.size wy (i + 1) v (.int .i64 ((n : Int) + 1 + 1)) (.int .i64 ((i : Int) + 1)) ∨ PStB T E w.heap.size wy (i + 1) v) := by
            intro wy v ys hy ho hgg
            rcases hR.2 with ⟨e1, e2⟩ | ⟨e1, e2⟩
            · refine .inr ⟨by omega, ys, ho, ?_⟩
              rw [e2, goP] at hgg
              exact hgg.symm
            · rw [e2] at hgg
              exact .inl ⟨n + 1, i + 1, ys, by simp, by simp, ho, by omega, by omega, hgg, by simp, by omega, hy⟩
          clear hnl hcur hR hown hzz
          by_cases hse : saidP z = []
          · rw [if_pos hse] at hgo
            rw [hse] at BA
            have HGG : Hid (goP R (n + 1) ws = E) := hgo
            have hq : (bs ([] : Bs)).toList.isEmpty = true := by rw [Lib.toList_data]; rfl
            clear hgo hse hsl
            rcases hguard with ⟨g1, g2, g3⟩ | ⟨g1, g2, g3⟩
            · go_wp2_with (go_at_call 13; refine (BA.out _).mono ?_; rintro e w' ⟨rfl, hw⟩; obtain rfl := hw.symm; clear hw)
              go_roundg g'
              case measure => omega
              case rel => exact ⟨i + 1, by go_num, by omega, HNX.out _ _ ws (by omega) HO.out HGG.out, hbel⟩
            · have hatT : ∀ h, (bs T)[i]'h = T[i]'g2 := fun h => bs_at T i h g2
              go_wp2_with (go_at_call 13; refine (BA.out _).mono ?_; rintro e w' ⟨rfl, hw⟩; obtain rfl := hw.symm; clear hw)
              go_roundg g'
              case measure => omega
              case rel => exact ⟨i + 1, by go_num, by omega, HNX.out _ _ ws (by omega) HO.out HGG.out, hbel⟩
          · rw [if_neg hse] at hgo
            obtain ⟨sd, hsd⟩ : ∃ x, x = saidP z := ⟨_, rfl⟩
            rw [← hsd] at hgo BA hsl hse
            have hq : (bs sd).toList.isEmpty = false := by
              rw [Lib.toList_data, bs_data]
              cases sd with
              | nil => exact absurd rfl hse
              | cons a b => rfl
            have WD : Hid (∀ (X : World) (c : Int), c = 4 * (ws.length : Int) → Calls Tryz.prog 14 #[.string (bs sd), .int .u32 c] X fun e w' => ∃ x, e = .returned (.tuple #[.int .u32 x, .bool (wordP sd (4 * (ws.length : Int))).isSome]) ∧ (∀ y, wordP sd (4 * (ws.length : Int)) = some y → x = y) ∧ Below X.heap.size X w') := fun X c hc => by rw [hc]; exact rword_any sd _ X hsl
            obtain ⟨sa, sc, rfl⟩ : ∃ a c, u5 = .slice a ws.length c := by
              rcases HO.out.2 with ⟨rfl, h0⟩ | ⟨g, cap, cur, rfl, _⟩
              · exact ⟨none, 0, by rw [h0]⟩
              · exact ⟨_, _, rfl⟩
            have hws : ws.length ≤ 65536 := by omega
            clear hsd hse hsl
            cases hw : wordP sd (4 * (ws.length : Int)) with
            | none =>
              rw [hw] at hgo WD
              have HGG : Hid (E = .line (n + 1)) := hgo.symm
              clear hgo hw
              rcases hguard with ⟨g1, g2, g3⟩ | ⟨g1, g2, g3⟩
              all_goals
                try have hatT : ∀ h, (bs T)[i]'h = T[i]'g2 := fun h => bs_at T i h g2
                go_wp2_with (first | (go_at_call 13; refine (BA.out _).mono ?_; rintro e w' ⟨rfl, hw⟩; obtain rfl := hw.symm; clear hw) | (go_at_call 14; refine (WD.out _ _ (by first | rfl | omega)).mono ?_; rintro e w4 ⟨x4, rfl, _, hb4⟩))
                go_ret3
                exact ⟨.slice none 0 0, by rw [HE.out.2.1, HE.out.2.2, HGG.out]; rfl, by rw [HE.out.1, HGG.out]; exact World.ownsRow_nil _ _ _ _, hbel.trans (hb4.mono hsz)⟩
            | some x =>
              rw [hw] at hgo WD
              have HGG : Hid (goP R (n + 1) (ws ++ [x]) = E) := hgo
              clear hgo hw
              rcases hguard with ⟨g1, g2, g3⟩ | ⟨g1, g2, g3⟩
              all_goals
                try have hatT : ∀ h, (bs T)[i]'h = T[i]'g2 := fun h => bs_at T i h g2
                go_wp2_with (first | (go_at_call 13; refine (BA.out _).mono ?_; rintro e w' ⟨rfl, hw⟩; obtain rfl := hw.symm; clear hw) | (go_at_call 14; refine (WD.out _ _ (by first | rfl | omega)).mono ?_; rintro e w4 ⟨x4, rfl, hx4, hb4⟩; obtain rfl : x4 = x := hx4 x rfl; have O4 : Hid (w4.ownsRow w.heap.size 28 1 (.slice sa ws.length sc) ws.length (ints ws)) := own_call HO.out hb4; have q4 := hb4.size) | (at_builtin; refine wpList_append_own _ rfl _ _ 23 rfl w.heap.size 28 i0 (.int .u32 0) 1 4 Tryz.underlying23 hi0 hz0 hz1 hz2 rfl (by decide) _ ws.length _ rfl (O4.out.alloc _) ⟨w4.heap.size, 0, none⟩ 1 1 [.int .u32 x4] rfl rfl (cell_new1 _ _ _) (by intro u hu; simp at hu; subst hu; rfl) (by unfold maxLen; omega) (by omega) (by simp; omega) ?_; intro v5 w5 hown5 hgrow5 hnil5))
                have q5 : Below w.heap.size w w5 := ((hbel.trans (hb4.mono hsz)).alloc (by omega) _).grown hgrow5 (by simp; omega) (fun j hj => (own_lt O4.out _ hj).1)
                have o5 : w5.ownsRow w.heap.size 28 1 v5 (ws ++ [x4]).length (ints (ws ++ [x4])) := by rw [List.length_append, ints_sn]; exact hown5
                go_roundg g'
                case measure => omega
                case rel => exact ⟨i + 1, by go_num, by omega, HNX.out _ _ (ws ++ [x4]) (by simp; omega) o5 HGG.out, q5⟩
      · have hdi : decide ((T.length : Int) + 1 ≤ (T.length : Int)) = false := by simp; omega
        have hdi2 : decide (((T.length + 1 : Nat) : Int) ≤ (T.length : Int)) = false := by simp; omega
        have HF : Hid (wr.ownsRow w.heap.size 28 1 u5 ws.length (ints ws)) := hown
        have HEE : Hid (E = .words ws) := hEw
        clear hown hEw
        go_wp2
        go_ret3
        refine ⟨u5, ?_, ?_, hbel⟩
        · rw [HE.out.2.1, HE.out.2.2, HEE.out]; rfl
        · rw [HE.out.1, HEE.out]; exact HF.out
end Go.Proofs.YtmldlkcgaepaaaaGreatDoor

namespace Go.Proofs.YtmldlkcgaepaaaaGreatDoor
set_option linter.unusedVariables false
set_option linter.unusedSimpArgs false
open Go.ChangeShapes Go.WideShapes Go.ChangeAt Go.RowKit
attribute [local go_sem ↓] loadIn_seal storeIn_seal
attribute [local go_sem] loadIn_run storeIn_run rowAt_at rowAt_old rowAt_drew rowAt_drewN roomCpu_new roomIn_new roomAt_old roomAt_drew roomAt_drewN putCpu_new putIn_new Cp.zero_fold In.fold putRow_past rowCpu_put rowIn_put size_put putRow_drew putRow_drewN alloc_drewN setCell_drewN Cp.at16 Cp.at17 Cp.at18 Cp.at19 Cp.at20 Cp.at21 Cp.size Cp.set16 Cp.set17 Cp.set18 Cp.set19 Cp.set20 Cp.set21 In.at0 In.at1 In.at2 In.at3 In.at4 In.at5 In.at6 In.at7 In.size In.set0 In.set1 In.set2 In.set3 In.ne Cp.ne In.set4 In.set5 In.set6 In.set7

/-- A row of texts that was handed in. -/
def SAt (w : World) (a : Option Addr) (M : Nat) (t : Nat → ByteArray) : Prop := ∀ j, j < M → ∃ b off, a = some ⟨b, off, none⟩ ∧ b < w.heap.size ∧ w.cell? ⟨b, off + j, none⟩ = some (.string (t j)) ∧ (t j).size ≤ 9223372036854775807
/-- A row of words of the call's own, its block and its room. -/
def OwnW (X : World) (B : Nat) (a : Option Addr) (n : Nat) : Prop := 0 < n → ∃ g cur, a = some ⟨g, 0, none⟩ ∧ B ≤ g ∧ X.heap[g]? = some (.cells cur 28 (0, 0)) ∧ n ≤ cur.size
theorem words_own2 {w : World} {B : Nat} {v : Value} {L : List Int} (h : w.ownsRow B 28 1 v L.length (ints L)) : ∃ a c, v = .slice a L.length c ∧ WordsAt w a L ∧ OwnW w B a L.length := by
  obtain ⟨a, c, rfl, hw⟩ := words_own h
  refine ⟨a, c, rfl, hw, fun h0 => ?_⟩
  rcases h.2 with ⟨_, hn⟩ | ⟨g, cap, cur, hv, hb, hg, hc, _, hs, ht⟩
  · omega
  · injection hv with e1 e2 e3
    exact ⟨g, cur, e1, hb, hg, by rw [hs]; omega⟩
theorem words_keep {X Y : World} {a : Option Addr} {L : List Int} (h : WordsAt X a L) {g : Nat} (hk : ∀ b, b ≠ g → Y.heap[b]? = X.heap[b]?) (hs : Y.heap.size = X.heap.size) (hg : ∀ b off, a = some ⟨b, off, none⟩ → b ≠ g) : WordsAt Y a L := fun j hj => by
  obtain ⟨b, off, e, h1, h2⟩ := h j hj
  exact ⟨b, off, e, by rw [hs]; exact h1, (World.cell?_of_block (a := ⟨b, off + j, none⟩) (hk b (hg b off e))).trans h2⟩
theorem parse_lim (T : Bs) : (parseW T).length ≤ 9223372036854775807 := by
  have := parse_len T
  omega
set_option maxHeartbeats 4000000 in
set_option maxRecDepth 20000 in
theorem parses_walk (a : Option Addr) (M cap : Nat) (t : Nat → ByteArray) (w : World) (V : Vars w) (hM : M ≤ 9223372036854775807) (hT : SAt w a M t) :
    Calls Tryz.prog 3 #[.slice a M cap] w fun e w' => e = .returned (.bool true) ∧ Below w.heap.size w w' := by
  have HV : Hid (Vars w) := V
  have HT : Hid (SAt w a M t) := hT
  clear V hT
  go_enter Tryz.func3, Tryz.ntmps3
  go_wp2
  go_loopw [3] (fun x wr => ∃ k : Nat, k ≤ M ∧ x = .int .i64 k ∧ Below w.heap.size w wr) (fun x _ => M - (intOf x).toNat)
  case atStart => exact ⟨0, by omega, rfl, Below.refl _ _⟩
  case round =>
    obtain ⟨k, hk, rfl, hbel⟩ := hrel
    have hsz := hbel.size
    have HV1 : Hid (Vars wr) := HV.out.below hbel HV.out.big
    by_cases hlt : k < M
    · have hd : decide ((k : Int) < (M : Int)) = true := by simp; omega
      obtain ⟨b, off, rfl, hb, hc0, htk⟩ := HT.out k hlt
      have hc1 : wr.cell? ⟨b, off + k, none⟩ = some (.string (t k)) := (hbel.cell (p := ⟨b, _, none⟩) hb).trans hc0
      have hbr : b < wr.heap.size := by omega
      obtain ⟨T, hTt⟩ : ∃ T, T = (t k).data.toList := ⟨_, rfl⟩
      have hbs : bs T = t k := by rw [hTt]; exact bs_of _
      have PA : Hid (∀ X, Vars X → Calls Tryz.prog 4 #[.string (t k)] X _) := fun X hX => parse_any (t k) X hX
      rw [← hTt] at PA
      have RP : Hid (∀ X, Calls Tryz.prog 5 #[.string (t k)] X _) := fun X => by rw [← hbs]; exact rparse_any T X (by rw [hTt, Array.length_toList]; exact htk)
      have hlim := parse_lim T
      generalize parseW T = L at PA RP hlim
      generalize parseN T = pn at PA RP
      generalize parseE T = pe at PA RP
      clear hTt hbs hc0 htk
      generalize t k = tk at hc1 PA RP
      obtain ⟨wo, rfl⟩ : ∃ wo, wo = wr := ⟨_, rfl⟩
      go_wp2_with (first
        | (go_at_call 6; have hx := W4; clear hx; refine (same_any _ _ _ _ L _ W4.out.1 W4.out.2.2 hlim).mono ?_; rintro e w5 ⟨rfl, hb5⟩)
        | (go_at_call 5; refine (RP.out _).mono ?_; rintro e w4 ⟨v4, rfl, o4, hb4⟩; obtain ⟨a4, c4, rfl, A4, B4⟩ := words_own2 o4; have W4 : Hid (WordsAt w4 a2 L ∧ WordsAt w4 a3 L ∧ WordsAt w4 a4 L) := ⟨words_below W3.out.1 hb4, words_below W3.out.2 hb4, A4⟩; clear A4 o4)
        | (go_at_call 4; have hx := W2; clear hx; refine (PA.out _ V2.out).mono ?_; rintro e w3 ⟨v3, rfl, o3, hb3⟩; obtain ⟨a3, c3, rfl, A3, B3⟩ := words_own2 o3; have W3 : Hid (WordsAt w3 a2 L ∧ WordsAt w3 a3 L) := ⟨words_below W2.out hb3, A3⟩; have hc3 : w3.cell? ⟨b, off + k, none⟩ = some (.string tk) := (hb3.cell (p := ⟨b, _, none⟩) (show b < w2.heap.size by omega)).trans hc2; have hs3 := hb3.size; clear A3 o3)
        | (go_at_call 4; refine (PA.out _ HV1.out).mono ?_; rintro e w2 ⟨v2, rfl, o2, hb2⟩; obtain ⟨a2, c2, rfl, A2, B2⟩ := words_own2 o2; have W2 : Hid (WordsAt w2 a2 L) := A2; have V2 : Hid (Vars w2) := HV1.out.below hb2 HV1.out.big; have hc2 : w2.cell? ⟨b, off + k, none⟩ = some (.string tk) := (hb2.cell (p := ⟨b, _, none⟩) hbr).trans hc1; have hs2 := hb2.size; clear A2 o2))
      have e2 : Below w.heap.size w w2 := hbel.trans (hb2.mono hsz)
      have e3 : Below w.heap.size w w3 := e2.trans (hb3.mono e2.size)
      have e4 : Below w.heap.size w w4 := e3.trans (hb4.mono e3.size)
      have e5 : Below w.heap.size w w5 := e4.trans (hb5.mono e4.size)
      have W5 : Hid (WordsAt w5 a3 L ∧ WordsAt w5 a4 L) := ⟨words_below W4.out.2.1 hb5, words_below W4.out.2.2 hb5⟩
      have H5 : Hid (Below w.heap.size w w5) := e5
      by_cases h0 : 0 < L.length
      · obtain ⟨g2, cur, rfl, q1, q2, q3⟩ := B2 h0
        obtain ⟨g3, cur3, rfl, q4, _, _⟩ := B3 h0
        obtain ⟨g4, cur4, rfl, q5, _, _⟩ := B4 h0
        have l2 : g2 < w2.heap.size := (Array.getElem?_eq_some_iff.1 q2).1
        have hs4 := hb4.size
        have n3 : g3 ≠ g2 := by omega
        have n4 : g4 ≠ g2 := by omega
        have q6 : w5.heap[g2]? = some (.cells cur 28 (0, 0)) := (hb5.block g2 (by omega)).trans ((hb4.block g2 (by omega)).trans ((hb3.block g2 l2).trans q2))
        have wg : w.heap.size ≤ g2 := by omega
        clear B2 B3 B4 W2 W3 W4 V2 e2 e3 e4 e5 hb2 hb3 hb4 hb5 q2 q4 q5 hs2 hs3 hs4 hc1 hc2 hc3 PA RP
        go_loopw [13] (fun x X => ∃ (j : Nat) (cur' : Array Value), j ≤ L.length ∧ x = .int .i64 j ∧ X.heap[g2]? = some (.cells cur' 28 (0, 0)) ∧ L.length ≤ cur'.size ∧ (∀ b, b ≠ g2 → X.heap[b]? = w5.heap[b]?) ∧ X.heap.size = w5.heap.size ∧ Below w.heap.size w X) (fun x _ => L.length - (intOf x).toNat)
        case atStart => exact ⟨0, cur, by omega, rfl, q6, q3, fun _ _ => rfl, rfl, H5.out⟩
        case round =>
          obtain ⟨j, cur', hj, rfl, hg, hcz, hoth, hsz', hbx⟩ := hrel
          have HX : Hid (wr.heap[g2]? = some (.cells cur' 28 (0, 0)) ∧ (∀ b, b ≠ g2 → wr.heap[b]? = w5.heap[b]?) ∧ wr.heap.size = w5.heap.size ∧ Below w.heap.size w wr) := ⟨hg, hoth, hsz', hbx⟩
          by_cases hjl : j < L.length
          · have hdj : decide ((j : Int) < (L.length : Int)) = true := by simp; omega
            have hjc : j < cur'.size := Nat.lt_of_lt_of_le hjl hcz
            have hc9 : wr.cell? ⟨g2, j, none⟩ = some (cur'[j]'hjc) := by simp [World.cell?, hg, Array.getElem?_eq_getElem hjc]
            have hf9 : wr.frozen? ⟨g2, j, none⟩ = false := by simp [World.frozen?, hg]
            generalize cur'[j]'hjc = cv at hc9
            clear hjc
            clear hg hoth hsz' hbx q6
            go_wp2
            go_roundw
            case rel => exact ⟨j + 1, cur'.setIfInBounds j (.int .u32 77), by omega, by go_num, Go.Joins.block_setCell HX.out.1 _, by simpa using hcz, fun b hb => (Below.heap_setCell _ _ _ _ hb).trans (HX.out.2.1 b hb), by simp [World.setCell]; exact HX.out.2.2.1, HX.out.2.2.2.setCell wg _⟩
            case measure => simp [intOf]; omega
          · have hdj : decide ((j : Int) < (L.length : Int)) = false := by simp; omega
            have W9 : Hid (WordsAt wr (some ⟨g3, 0, none⟩) L ∧ WordsAt wr (some ⟨g4, 0, none⟩) L) := ⟨words_keep W5.out.1 hoth hsz' (fun b off e => by injection e with e; injection e with e1; omega), words_keep W5.out.2 hoth hsz' (fun b off e => by injection e with e; injection e with e1; omega)⟩
            clear hg hoth hsz' hbx q6 hcz
            go_wp2_with (go_at_call 6; refine (same_any _ _ _ _ L _ W9.out.1 W9.out.2 hlim).mono ?_; rintro e w9 ⟨rfl, hb9⟩)
            go_roundw
            case rel => exact ⟨k + 1, by omega, by go_num, HX.out.2.2.2.trans (hb9.mono HX.out.2.2.2.size)⟩
            case measure => simp [intOf]; omega
      · have hdj : decide ((0 : Int) < (L.length : Int)) = false := by rw [decide_eq_false_iff_not]; omega
        have hdj2 : decide (0 < L.length) = false := by rw [decide_eq_false_iff_not]; omega
        have hL0 : L = [] := List.eq_nil_of_length_eq_zero (by omega)
        clear B2 B3 B4 W2 W3 W4 V2 e2 e3 e4 e5 hb2 hb3 hb4 hb5 hs2 hs3 hc1 hc2 hc3 PA RP
        go_loopw [13] (fun x X => x = .int .i64 0 ∧ X = w5) (fun x _ => 0)
        case atStart => exact ⟨rfl, rfl⟩
        case round =>
          obtain ⟨rfl, rfl⟩ := hrel
          clear hL0
          go_wp2_with (go_at_call 6; refine (same_any _ _ _ _ L _ W5.out.1 W5.out.2 hlim).mono ?_; rintro e w9 ⟨rfl, hb9⟩)
          go_roundw
          case rel => exact ⟨k + 1, by omega, by go_num, H5.out.trans (hb9.mono H5.out.size)⟩
          case measure => simp [intOf]; omega
    · have hd : decide ((k : Int) < (M : Int)) = false := by simp; omega
      go_wp2_with (go_at_call 7; refine (shown6 _ HV1.out).mono ?_; rintro e w9 ⟨rfl, hb9⟩)
      go_ret
      exact ⟨rfl, hbel.trans (hb9.mono hsz)⟩
end Go.Proofs.YtmldlkcgaepaaaaGreatDoor
