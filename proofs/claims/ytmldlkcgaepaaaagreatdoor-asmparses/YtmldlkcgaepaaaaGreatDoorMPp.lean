/-
  Layer 6's wordOf, the program's: which word a line says, over the maps of names.
  Layer 6's Parse as a plain function of a text, and strings.Split at a byte.
-/
import Derived.Test.YtmldlkcgaepaaaaGreatDoorMK4
import Derived.Deep.DeepCutAuto
import Derived.Lib.SplitLaws
namespace Go.Proofs.YtmldlkcgaepaaaaGreatDoor
set_option linter.unusedVariables false
set_option linter.unusedSimpArgs false
open Go.ChangeShapes Go.WideShapes Go.ChangeAt Go.RowKit
attribute [local go_sem ↓] loadIn_seal storeIn_seal
attribute [local go_sem] loadIn_run storeIn_run rowAt_at rowAt_old rowAt_drew rowAt_drewN roomCpu_new roomIn_new roomAt_old roomAt_drew roomAt_drewN putCpu_new putIn_new Cp.zero_fold In.fold putRow_past rowCpu_put rowIn_put size_put putRow_drew putRow_drewN alloc_drewN setCell_drewN Cp.at16 Cp.at17 Cp.at18 Cp.at19 Cp.at20 Cp.at21 Cp.size Cp.set16 Cp.set17 Cp.set18 Cp.set19 Cp.set20 Cp.set21 In.at0 In.at1 In.at2 In.at3 In.at4 In.at5 In.at6 In.at7 In.size In.set0 In.set1 In.set2 In.set3 In.ne Cp.ne In.set4 In.set5 In.set6 In.set7

theorem asc3 : ∀ j (h : j < (⟨#[32, 9, 13]⟩ : ByteArray).size), ((⟨#[32, 9, 13]⟩ : ByteArray)[j]'h).toNat < 128 := by decide
theorem parts_len (c : UInt8) : ∀ l : Bs, (parts c l).length ≤ l.length + 1
  | [] => by simp [parts]
  | x :: r => by
    have ih := parts_len c r
    have h0 : 0 < (parts c r).length := List.length_pos_iff.2 (parts_ne c r)
    unfold parts
    split
    · simp; omega
    · simp; omega
theorem parts_sub (c : UInt8) : ∀ (l : Bs), ∀ x ∈ parts c l, x.length ≤ l.length
  | [], x, h => by simp [parts] at h; subst h; simp
  | y :: r, x, h => by
    have ih := parts_sub c r
    unfold parts at h
    split at h
    · rcases List.mem_cons.1 h with rfl | h
      · simp
      · have := ih x h; simp; omega
    · rcases List.mem_cons.1 h with rfl | h
      · have : (parts c r).headD [] ∈ parts c r := by rw [parts_cons c r]; simp
        have := ih _ this
        show ((parts c r).headD []).length + 1 ≤ r.length + 1
        omega
      · have : x ∈ parts c r := by rw [parts_cons c r]; exact List.mem_cons_of_mem _ h
        have := ih _ this
        simp; omega
theorem ops_pos (l : Bs) : 0 < (operandsP l).length := by simp [operandsP]; exact List.length_pos_iff.2 (parts_ne 44 l)
theorem ops_len (l : Bs) : (operandsP l).length ≤ l.length + 1 := by simp [operandsP]; exact parts_len 44 l
theorem ops_sub (l : Bs) : ∀ x ∈ operandsP l, x.length ≤ l.length := fun x hx => by
  obtain ⟨y, hy, rfl⟩ := List.mem_map.1 hx
  exact Nat.le_trans (trim_len y) (parts_sub 44 l y hy)
def restV (nm : Bs) (l : List Bs) (a : Int) : Int := match instrP nm (l.getLastD []) with
  | none => 0
  | some i => match filledP i l a with
    | none => 0
    | some i' => encW i'
def restP (nm : Bs) (l : List Bs) (a : Int) : Option Int := (instrP nm (l.getLastD [])).bind fun i => (filledP i l a).bind fun i' => if rightB i' then some (packV i') else none
/-- What wordOf answers beside its bool. -/
def wordV (s : Bs) (a : Int) : Int := if cutB blanks.contains s = wordT then digV (operandsP (cutR blanks.contains s)) else restV (cutB blanks.contains s) (operandsP (cutR blanks.contains s)) a
theorem dig_some {l : List Bs} {x : Int} (h : digitsP l = some x) : digV l = x := by
  match l, h with
  | [], h => cases h
  | [s], h =>
    simp only [digitsP] at h
    split at h
    · exact Option.some.inj h
    · cases h
  | _ :: _ :: _, h => cases h
theorem wordP_some {s : Bs} {a x : Int} (h : wordP s a = some x) : wordV s a = x := by
  unfold wordP at h; unfold wordV restV
  simp only at h ⊢
  split at h
  · rw [if_pos (by assumption)]
    exact dig_some h
  · rw [if_neg (by assumption)]
    cases h1 : instrP (cutB blanks.contains s) ((operandsP (cutR blanks.contains s)).getLastD []) with
    | none => rw [h1] at h; cases h
    | some i =>
      rw [h1] at h
      simp only [Option.bind_some] at h ⊢
      cases h2 : filledP i (operandsP (cutR blanks.contains s)) a with
      | none => rw [h2] at h; cases h
      | some i' =>
        rw [h2] at h
        simp only [Option.bind_some] at h ⊢
        split at h
        · rename_i hr
          rw [encW, if_pos hr]
          exact Option.some.inj h
        · cases h
theorem lit_eq (l : Bs) : ((bs l).toList == [87, 79, 82, 68]) = decide (l = wordT) := by
  rw [Lib.toList_data, bs_data]; exact Bool.eq_iff_iff.2 ⟨fun h => decide_eq_true (beq_iff_eq.1 h), fun h => beq_iff_eq.2 (of_decide_eq_true h)⟩
theorem last_at (l : List Bs) (h : 0 < l.length) : l.getLastD [] = l[l.length - 1] := by
  rw [List.getLastD_eq_getLast?, List.getLast?_eq_getElem?, List.getElem?_eq_getElem (by omega)]; rfl
/-- All that the walk of wordOf holds on to, behind its first two calls. -/
structure Wk (w X : World) (b0 b1 b2 b3 : Nat) (v : Value) (l : List Bs) : Prop where
  below : Below w.heap.size w X
  row : rowAt X w.heap.size = some #[.map (some b0), .map (some b1), .map (some b2), .map (some b3)]
  lt : w.heap.size < X.heap.size
  own : X.ownsRow (w.heap.size + 1) 9 1 v l.length (strs l)
  known : Known X b0 b1 b2 b3
  vars : Vars X
theorem Wk.call {w X Y : World} {b0 b1 b2 b3 : Nat} {v : Value} {l : List Bs} (h : Wk w X b0 b1 b2 b3 v l) (hb : Below X.heap.size X Y) : Wk w Y b0 b1 b2 b3 v l :=
  ⟨h.below.trans (hb.mono h.below.size), (rowAt_below hb _ h.lt).trans h.row, Nat.lt_of_lt_of_le h.lt hb.size, own_call h.own hb, h.known.call hb, h.vars.call hb⟩
theorem Wk.drew {w X : World} {b0 b1 b2 b3 : Nat} {v : Value} {l : List Bs} (h : Wk w X b0 b1 b2 b3 v l) : Wk w X.drew b0 b1 b2 b3 v l := h.call (Below.refl _ _).drew
theorem Wk.alloc {w X : World} {b0 b1 b2 b3 : Nat} {v : Value} {l : List Bs} (h : Wk w X b0 b1 b2 b3 v l) (o : Obj) : Wk w (X.alloc o) b0 b1 b2 b3 v l := h.call ((Below.refl _ _).alloc (Nat.le_refl _) _)
theorem Wk.put {w X : World} {b0 b1 b2 b3 : Nat} {v : Value} {l : List Bs} {n : Nat} (h : Wk w X b0 b1 b2 b3 v l) (hn : X.heap.size ≤ n) (Y : World) (hb : Below X.heap.size X Y) (c : Array Value) : Wk w (putRow Y n c) b0 b1 b2 b3 v l := h.call (below_put hb n hn c)
set_option maxRecDepth 20000 in
set_option maxHeartbeats 2000000 in
theorem wordOf_any (s : Bs) (a : Int) (hs : s.length ≤ 100000) (a0 : 0 ≤ a) (a1 : a ≤ 4294967295) {b0 b1 b2 b3 : Nat} (w : World) (K : Known w b0 b1 b2 b3) (V : Vars w) :
    Calls Tryz.prog 11 #[.agg #[.map (some b0), .map (some b1), .map (some b2), .map (some b3)], .string (bs s), .int .u32 a] w fun e w' => e = .returned (.tuple #[.int .u32 (wordV s a), .bool (wordP s a).isSome]) ∧ Below w.heap.size w w' := by
  have hC := cut_any (bs s) ⟨#[32, 9, 13]⟩ asc3 (by decide) (by rw [bs_size]; omega)
  rw [bs_data] at hC
  have hC : ∀ w, Calls Tryz.prog 19 #[.string (bs s), .string { data := #[32, 9, 13] }] w fun e w' => e = .returned (.tuple #[.string (bs (cutB blanks.contains s)), .string (bs (cutR blanks.contains s)), .bool (cutH blanks.contains s)]) ∧ Below w.heap.size w w' := hC
  have l1 := cutB_len blanks.contains s
  have l2 := (cutR_len blanks.contains s).1
  have hwp : wordP s a = if cutB blanks.contains s = wordT then digitsP (operandsP (cutR blanks.contains s)) else restP (cutB blanks.contains s) (operandsP (cutR blanks.contains s)) a := rfl
  rw [wordV, hwp]
  clear hwp
  generalize cutB blanks.contains s = nm at hC l1 ⊢
  generalize cutR blanks.contains s = rs at hC l2 ⊢
  generalize cutH blanks.contains s = hh at hC
  have hO := operands_any rs (by omega)
  have o1 := ops_pos rs
  have o2 := ops_len rs
  have o3 := ops_sub rs
  generalize operandsP rs = l at hO o1 o2 o3 ⊢
  have HO : Hid (∀ w, Calls Tryz.prog 21 #[.string (bs rs)] w fun e w' => ∃ v, e = .returned v ∧ w'.ownsRow w.heap.size 9 1 v l.length (strs l) ∧ Below w.heap.size w w') := hO
  have HC : Hid _ := hC
  have HK : Hid (Known w b0 b1 b2 b3) := K
  have HV : Hid (Vars w) := V
  have HV11 : Hid (9 ≤ w.heap.size) := V.big
  have O3 : Hid (∀ x ∈ l, x.length ≤ 1000000) := fun x hx => by have := o3 x hx; omega
  have o4 : l.length ≤ 1000001 := by omega
  have hnm : (bs nm).size ≤ 1000000 := by rw [bs_size]; omega
  clear hO hC K V o3
  have hq := lit_eq nm
  by_cases hnw : nm = wordT
  · rw [if_pos hnw, if_pos hnw]
    rw [decide_eq_true hnw] at hq
    clear hnw
    go_enter Tryz.func11, Tryz.ntmps11
    go_wp2_with (first | (go_at_call 19; refine (HC.out _).mono ?_; rintro e w1 ⟨rfl, hb1⟩) | (go_at_call 21; refine (HO.out _).mono ?_; rintro e w2 ⟨v, rfl, hown, hb2⟩) | (go_at_call 22; refine (digits_any l O3.out o4 o1 _ hown).mono ?_; rintro e w3 ⟨rfl, hb3⟩))
    have q1 := hb1.size
    have q2 := hb2.size
    simp at q1
    go_ret2
    exact ⟨rfl, ((((Below.refl _ _).alloc (Nat.le_refl _) _).trans (hb1.mono (by simp))).trans (hb2.mono (by omega))).trans (hb3.mono (by omega))⟩
  · rw [if_neg hnw, if_neg hnw]
    rw [decide_eq_false hnw] at hq
    clear hnw
    go_enter Tryz.func11, Tryz.ntmps11
    go_wp2_with (first | (go_at_call 19; refine (HC.out _).mono ?_; rintro e w1 ⟨rfl, hb1⟩) | (go_at_call 21; refine (HO.out _).mono ?_; rintro e w2 ⟨v, rfl, hown, hb2⟩))
    have q1 := hb1.size
    have q2 := hb2.size
    simp at q1
    have B2 : Below w.heap.size w w2 := (((Below.refl _ _).alloc (Nat.le_refl _) (.cells #[.map (some b0), .map (some b1), .map (some b2), .map (some b3)] 34)).trans (hb1.mono (by simp))).trans (hb2.mono (by omega))
    have WK : Wk w w2 b0 b1 b2 b3 v l := ⟨B2, (rowAt_below hb2 _ (by omega)).trans ((rowAt_below hb1 _ (by simp)).trans (rowAt_new _ _ _ _)), by omega, ⟨hown.1, hown.2.imp id fun ⟨g, cap, cur, x1, x2, x3⟩ => ⟨g, cap, cur, x1, by omega, x3⟩⟩, HK.out.call B2, HV.out.call B2⟩
    obtain ⟨g, cap, rfl, hg1, hg2, hcap, hcell, _⟩ := own_row WK.own o1
    have HW : Hid (Wk w w2 b0 b1 b2 b3 (.slice (some ⟨g, 0, none⟩) l.length cap) l) := WK
    have hlst : w2.cell? ⟨g, l.length - 1, none⟩ = some (.string (bs (l.getLastD []))) := by rw [last_at l o1]; exact (hcell _ (by omega)).trans (strs_at (by omega))
    have hls : (bs (l.getLastD [])).size ≤ 1000000 := by
      rw [bs_size, last_at l o1]; exact O3.out _ (List.getElem_mem _)
    have IA := fun X K => instr_any (bs nm) (bs (l.getLastD [])) hnm hls (b0 := b0) (b1 := b1) (b2 := b2) (b3 := b3) X K
    rw [bs_data, bs_data] at IA
    have HI : Hid _ := IA
    obtain ⟨last, hlast⟩ : ∃ x, x = l.getLastD [] := ⟨_, rfl⟩
    rw [← hlast] at hlst hls HI
    have rv : restV nm l a = match instrP nm last with
      | none => 0
      | some i => match filledP i l a with
        | none => 0
        | some i' => encW i' := by rw [hlast]; rfl
    have rp : restP nm l a = (instrP nm last).bind fun i => (filledP i l a).bind fun i' => if rightB i' then some (packV i') else none := by rw [hlast]; rfl
    have RV : Hid _ := rv
    have RP : Hid _ := rp
    clear rv rp hlast
    clear IA WK hcell hown B2 hb1 hb2 HC HO HK HV
    have rr := HW.out.row
    obtain ⟨c0, c1, c2, c3⟩ := row4 _ _ _ _ _ _ rr
    have hx : IntKind.i64.wrap ((l.length : Int) - 1) = ((l.length - 1 : Nat) : Int) := by rw [IntKind.wrap_i64]; omega
    have hy : ((l.length - 1 : Nat) : Int) < l.length := by omega
    have lw := HW.out.lt
    generalize hN : l.length - 1 = N at hlst hx hy
    generalize hM : l.length = M at hx hy hcap ⊢
    clear hN
    go_cut [12, 13] (fun s12 s13 X => ∃ ga, s12 = .pointer (some ⟨ga, 0, none⟩) ∧ s13 = .bool (instrP nm last).isSome ∧ w2.heap.size ≤ ga ∧ rowAt X ga = some (instrV nm last).cells ∧ roomAt X ga 8 = true ∧ Wk w X b0 b1 b2 b3 (.slice (some ⟨g, 0, none⟩) l.length cap) l)
    case first =>
      go_region_with (go_at_call 23; refine (HI.out _ (by first | exact HW.out.known.drew | exact (HW.out.known.alloc _).drew)).mono ?_; rintro e w3 ⟨rfl, hb3⟩; first | (have p3 : roomAt w3 w2.heap.size 8 = true := (roomAt_below hb3 _ _ (by show w2.heap.size < (w2.alloc _).heap.size; simp)).trans (roomIn_new w2 _ _ _ rfl)) | skip)
      all_goals
        go_wp2_with fail
        go_meet
        first
          | exact ⟨_, rfl, rfl, hb3.size, rowAt_new _ _ _ _, roomIn_new _ _ _ _ rfl, (HW.out.drew.call hb3).alloc _⟩
          | exact ⟨_, rfl, rfl, Nat.le_refl _, rowIn_put _ _ _ p3, room_put _ p3, HW.out.put (Nat.le_refl _) w3 (((Below.refl _ _).alloc (Nat.le_refl _) _).drew.trans (hb3.mono (by simp))) _⟩
    case rest =>
      obtain ⟨ga, rfl, rfl, hga, r1, m1, hW⟩ := hcut
      clear HI HW c0 c1 c2 c3 rr hlst hx hy
      subst hM
      have hv : instrV nm last = (instrP nm last).getD zeroIn := rfl
      rw [hv] at r1
      clear hv
      cases hi : instrP nm last with
      | none =>
        have q3 := hW.below
        clear hW r1 m1
        go_wp2
        go_ret2
        exact ⟨ret_ub (by rw [RV.out, hi]) (by rw [RP.out, hi]; rfl), q3⟩
      | some i =>
        rw [hi] at r1
        have r1 : rowAt wc ga = some i.cells := r1
        have rr := hW.row
        obtain ⟨c0, c1, c2, c3⟩ := row4 _ _ _ _ _ _ rr
        have FA := filled_any i l a O3.out o4 o1 wc hW.known hW.vars hW.own
        have hgl : ga < wc.heap.size := by
          unfold rowAt at r1
          split at r1
          · rename_i x1 x2 x3 hbx; exact (Array.getElem?_eq_some_iff.1 hbx).1
          · cases r1
        have HW2 : Hid _ := hW
        clear hW
        cases hf : filledP i l a with
        | none =>
          rw [hf] at FA
          go_wp2_with (go_at_call 24; refine FA.mono ?_; rintro e w4 ⟨rfl, hb4⟩; have p4 : roomAt w4 ga 8 = true := (roomAt_below hb4 _ _ hgl).trans m1)
          go_ret2
          exact ⟨ret_ub (by rw [RV.out, hi]; simp only [hf]) (by rw [RP.out, hi]; simp only [hf, Option.bind_some]; rfl), below_put (HW2.out.call hb4).below _ (by omega) _⟩
        | some i' =>
          have hfv : filledV i l a = i' := by simp [filledV, hf]
          rw [hf, hfv] at FA
          go_wp2_with (first | (go_at_call 24; refine FA.mono ?_; rintro e w4 ⟨rfl, hb4⟩; have p4 : roomAt w4 ga 8 = true := (roomAt_below hb4 _ _ hgl).trans m1; have W4 : Hid (Vars (putRow w4 ga i'.cells) ∧ Below w.heap.size w (putRow w4 ga i'.cells)) := ⟨(HW2.out.call hb4).vars.below (below_put (Below.refl 9 _) ga (by have := HV11.out; omega) _) (Nat.le_refl _), below_put (HW2.out.call hb4).below _ (by omega) _⟩; have r4 := rowIn_put w4 ga i' p4) | (go_at_call 25; refine (encode_any i' _ W4.out.1.ways).mono ?_; rintro e w5 ⟨rfl, hb5⟩))
          go_ret2
          refine ⟨ret_ub (by rw [RV.out, hi]; simp only [hf]) ?_, W4.out.2.trans (hb5.mono W4.out.2.size)⟩
          rw [RP.out, hi]
          simp only [hf, Option.bind_some, encE]
          cases hr : rightB i' <;> simp
end Go.Proofs.YtmldlkcgaepaaaaGreatDoor

namespace Go.Proofs.YtmldlkcgaepaaaaGreatDoor
set_option linter.unusedVariables false
set_option linter.unusedSimpArgs false

theorem split_parts (c : UInt8) : ∀ l : Bs, Lib.splitK [c] 0 (l.count c) l = parts c l
  | [] => rfl
  | x :: l => by
    have ih := split_parts c l
    by_cases hx : x = c
    · subst hx
      have hi : Lib.index (x :: l) [x] = 0 := by simp [Lib.index, List.isPrefixOf]
      rw [List.count_cons_self, Lib.splitK, hi, parts, if_pos rfl]
      simp [ih]
    · have hc : (x :: l).count c = l.count c := List.count_cons_of_ne (by simpa using hx)
      rw [hc, parts, if_neg hx, ← ih]
      cases hn : l.count c with
      | zero => simp [Lib.splitK]
      | succ m =>
        have hne : Lib.index l [c] ≠ -1 := fun e => by
          have := Lib.count_miss e
          rw [Lib.count_one] at this; omega
        have hge := Lib.index_ge l [c]
        have hp : ([c] : List UInt8).isPrefixOf (x :: l) = false := by simp [List.isPrefixOf, Ne.symm hx]
        have hb : (Lib.index l [c] == -1) = false := by simpa using hne
        have hi : Lib.index (x :: l) [c] = Lib.index l [c] + 1 := by rw [Lib.index, hp, hb]; simp
        have hb2 : (Lib.index l [c] + 1 == -1) = false := by simp; omega
        have ht : (Lib.index l [c] + 1).toNat = (Lib.index l [c]).toNat + 1 := by omega
        rw [Lib.splitK, Lib.splitK, hi, hb, hb2, ht]
        simp [Nat.add_right_comm]
theorem splitB_parts (s : ByteArray) : (Lib.splitB { data := #[10] } 0 (Lib.countB s { data := #[10] }) s).map (·.data.toList) = parts 10 s.data.toList := by
  rw [Lib.splitB_data]
  have : Lib.countB s { data := #[10] } = s.data.toList.count 10 := Lib.count_one 10 _
  rw [this]; exact split_parts 10 _
/-- How reading ends: the words, or the line that is refused. -/
inductive Pe where
  | words (l : List Int)
  | line (n : Nat)
def goP : List Bs → Nat → List Int → Pe
  | [], _, ws => .words ws
  | l :: r, n, ws => if saidP l = [] then goP r (n + 1) ws else match wordP (saidP l) (4 * ws.length) with
    | none => .line (n + 1)
    | some x => goP r (n + 1) (ws ++ [x])
def parseW (t : Bs) : List Int := if 65536 < t.length then [] else match goP (parts 10 t) 0 [] with
  | .words l => l
  | .line _ => []
def parseN (t : Bs) : Int := if 65536 < t.length then 0 else match goP (parts 10 t) 0 [] with
  | .words _ => 0
  | .line n => n
def parseE (t : Bs) : Int := if 65536 < t.length then 60 else match goP (parts 10 t) 0 [] with
  | .words _ => 0
  | .line _ => 61
end Go.Proofs.YtmldlkcgaepaaaaGreatDoor
