/-
  Layer 13: whether all names that are shown differ.
-/
import Derived.Test.YtcppgpcgbggdcaaDoorYit
import Derived.Test.YtcppgpcgbggdcaaDoorMps
import Derived.Maps.OwnIn
namespace Go.Proofs.YtcppgpcgbggdcaaDoor
set_option linter.unusedVariables false
set_option linter.unusedSimpArgs false
open Go.ChangeShapes Go.WideShapes Go.ChangeAt Go.RowKit Go.Shelf
attribute [local go_sem] Oper.semAt_some
attribute [local go_sem ↓] ldS_seal stS_seal

section
variable {F : Fence} {nF : Nat} {w : World} {ops : Array Oper} {rest : List Oper} {o : Oper} {a : Act} {Q : Exit → Act → World → Prop}
theorem wpListIn_lookT (hg : o.guard = none) (m x : Operand) (t : TypeId) (hop : o.op = Op.lookup t m x true) (e : TypeId) (ht : Tryd.prog.underlying t = some (.map 9 e)) {z : Value} (hz : (zeroValue e).run Tryd.prog w = .ok z w)
    (b : Nat) (L : List (Bs × Value)) (hm : a.eval m = .map (some b)) (hM : MapIs w b L) (s : ByteArray) (hx : a.eval x = .string s) (hs : s.size ≤ maxLen) (v : Value) (f : Bool) (hv : (look L s.data.toList).getD z = v) (hf : (look L s.data.toList).isSome = f)
    (hK : wpListIn F nF Tryd.prog ops Q rest (a.put o.dst (.tuple #[v, .bool f])) w) : wpListIn F nF Tryd.prog ops Q (o :: rest) a w := by
  refine wpListIn_plain hg fun K' hK' => ?_
  have hrun := hM.look ht hz s hs
  unfold Oper.wpIn
  refine ⟨by simp [Oper.about, hop], ?_⟩
  rw [Oper.semAt_plain F _ _ (by rw [hop]; intro c hc'; cases hc')]
  simp [execOp, hop, hm, hx, hrun, Result.andThen, hv, hf]
  exact hK' _ _ hK
theorem wpListIn_putT (hg : o.guard = none) (m x v : Operand) (t : TypeId) (hop : o.op = Op.mapUpdate t m x v) (e : TypeId) (ht : Tryd.prog.underlying t = some (.map 9 e)) (b : Nat) (L : List (Bs × Value)) (hm : a.eval m = .map (some b)) (hM : MapIs w b L) (hn : L.length < 100000)
    (s : ByteArray) (val : Value) (hx : a.eval x = .string s) (hv : a.eval v = val) (hs : s.size ≤ maxLen)
    (hK : ∀ w', MapIs w' b ((s.data.toList, val) :: L) → w.grownBy w' (some b) → wpListIn F nF Tryd.prog ops Q rest (a.put o.dst undef) w') : wpListIn F nF Tryd.prog ops Q (o :: rest) a w := by
  refine wpListIn_plain hg fun K' hK' => ?_
  obtain ⟨w', hrun, r1, r2⟩ := hM.put hn ht s hs val
  unfold Oper.wpIn
  refine ⟨by simp [Oper.about, hop], ?_⟩
  rw [Oper.semAt_plain F _ _ (by rw [hop]; intro c hc'; cases hc')]
  simp [execOp, hop, hm, hx, hv, hrun, Result.andThen]
  exact hK' _ _ (hK w' r1 r2)
end
def unit_ : Value := .agg #[]
theorem zeroU (X : World) : (zeroValue 108).run Tryd.prog X = .ok unit_ X := by kernel_rfl
/-- The names that were there. -/
def seenL (N : List Bs) : List (Bs × Value) := N.map fun n => (n, unit_)
theorem look_seen (N : List Bs) (k : Bs) : look (seenL N) k = if N.contains k then some unit_ else none := by
  induction N with
  | nil => rfl
  | cons x r ih =>
    rw [seenL, List.map_cons, look_cons]
    by_cases h : x = k
    · subst h; simp
    · rw [if_neg h]
      have : (k == x) = false := by simpa using fun e => h e.symm
      rw [List.contains_cons, this, Bool.false_or]
      exact ih
def bsOf (x : Nm) : Bs := x.1.data.toList
def revN (pre : List Nm) : List Bs := (pre.map bsOf).reverse
theorem revN_snoc (pre : List Nm) (x : Nm) : revN (pre ++ [x]) = bsOf x :: revN pre := by simp [revN]
/-- What stands between two rounds. -/
structure ND (w W : World) (pre : List Nm) : Prop where
  mb : BA W (w.heap.size + 1 + 1 + 1) 104 #[.map (some (w.heap.size + 1 + 1))]
  mp : MapIs W (w.heap.size + 1 + 1) (seenL (revN pre))
  rb : BA W (w.heap.size + 1) 4 #[.bool false]
  nd : (pre.map bsOf).Nodup
  be : Below w.heap.size w W
  big : w.heap.size + 5 ≤ W.heap.size
theorem ND.grown {w W W' : World} {pre : List Nm} {row : Option Nat} (h : ND w W pre) (hg : W.grownBy W' row) (hr : ∀ r, row = some r → w.heap.size + 5 ≤ r) : ND w W' pre := by
  have ne : ∀ k, k < w.heap.size + 5 → ¬ (some k = row) := fun k hk e => by have := hr k e.symm; omega
  exact ⟨(hg.block _ h.mb.lt (ne _ (by omega))).trans h.mb, h.mp.grown hg (ne _ (by omega)), (hg.block _ h.rb.lt (ne _ (by omega))).trans h.rb, h.nd, ⟨hg.os.trans h.be.os, hg.tape.trans h.be.tape, hg.output.trans h.be.output, Nat.le_trans h.be.size hg.size, fun k hk => (hg.block k (Nat.lt_of_lt_of_le hk h.be.size) (ne k (by omega))).trans (h.be.block k hk)⟩, Nat.le_trans h.big hg.size⟩
theorem names_in (n : Nat) (cc : Array Value) (w : World) : CallsIn Fence.wide n Tryd.prog 56 #[.agg cc] w fun e w' => e = .returned (.func (.func 79) #[] #[.pointer (some ⟨w.heap.size, 0, none⟩)]) ∧ w' = w.alloc (.cells cc 26) := by
  refine callsIn_of_wp Tryd.func56 rfl trivial ?_ rfl
  simp only [Tryd.ntmps56, List.size_toArray, List.length_cons, List.length_nil, Nat.reduceAdd, Nat.reduceSub, Array.replicate_succ, Array.replicate_zero, List.push_toArray, List.append_toArray, List.nil_append, List.cons_append]
  gi_wp2
  go_ret
  exact ⟨rfl, rfl⟩
def diffB (o : Sy) (l : List (Pc × Sl)) : Bool := decide (((allNm o l).map bsOf).Nodup)
set_option maxRecDepth 100000 in
set_option maxHeartbeats 8000000 in
theorem namesD_in (n : Nat) (hn : 4 ≤ n) (w : World) (c : Sc) (o : Sy) (l : List (Pc × Sl)) (hr : SyR w c o l) (hfew : (allNm o l).length ≤ 1000) :
    CallsIn Fence.wide n Tryd.prog 28 #[.agg c.cells] w fun e W' => e = .returned (.bool (diffB o l)) ∧ Below w.heap.size w W' := by
  have h1 : 1 ≤ n := by omega
  have hmm := @run_makeMap Tryd.prog
  obtain ⟨W1, hW1⟩ : ∃ W1, W1 = ((w.alloc (.cells c.cells 26)).alloc (.cells #[.bool false] 4)) := ⟨_, rfl⟩
  have s1 : W1.heap.size = w.heap.size + 2 := by rw [hW1]; simp
  obtain ⟨W2, hW2⟩ : ∃ W2, W2 = ((W1.alloc (.map #[] 0)).alloc (.cells #[.map (some (w.heap.size + 1 + 1))] 104)) := ⟨_, rfl⟩
  have s2 : W2.heap.size = w.heap.size + 4 := by rw [hW2]; simp [s1]
  have hB0 : Below w.heap.size w W2 := by rw [hW2, hW1]; go_grown
  have b0 : BA W2 w.heap.size 26 c.cells := by rw [hW2, hW1]; exact ((((BA.new w _ _).below ((Below.refl _ _).alloc (Nat.le_refl _) _)).below ((Below.refl _ _).alloc (Nat.le_refl _) _)).below ((Below.refl _ _).alloc (Nat.le_refl _) _))
  have ld0 := ldT_run b0 Tryd.underlying26 rfl (by kernel_rfl)
  have N0 : ND w (W2.alloc (.cells c.cells 26)) [] := by
    have e1 : W1.heap.size = w.heap.size + 1 + 1 := s1
    refine ⟨BA.below ?_ ((Below.refl _ _).alloc (Nat.le_refl _) _), MapIs.alloc ?_ _, BA.below ?_ ((Below.refl _ _).alloc (Nat.le_refl _) _), List.nodup_nil, hB0.trans (((Below.refl _ _).alloc (Nat.le_refl _) _).mono hB0.size), by simp [s2]⟩
    · rw [hW2, show w.heap.size + 1 + 1 + 1 = (W1.alloc (.map #[] 0)).heap.size by simp [s1]]; exact BA.new _ _ _
    · rw [hW2, ← e1]; exact (MapIs.made W1).alloc _
    · rw [hW2]
      refine BA.below (BA.below ?_ ((Below.refl _ _).alloc (Nat.le_refl _) _)) ((Below.refl _ _).alloc (Nat.le_refl _) _)
      rw [hW1, show w.heap.size + 1 = (w.alloc (.cells c.cells 26)).heap.size by simp]
      exact BA.new _ _ _
  have B4 : BA (W2.alloc (.cells c.cells 26)) (w.heap.size + 4) 26 c.cells := by rw [← s2]; exact BA.new _ _ _
  have HN0 := hid_of N0
  have HB4 := hid_of B4
  have HF := hid_of hfew
  have HR := hid_of hr
  have HS2 := hid_of s2
  clear N0 B4 hfew hr b0
  rw [hW2, hW1] at ld0
  refine callsIn_of_wp_marks Tryd.func28 rfl trivial ?_ rfl
  simp only [Tryd.ntmps28, List.size_toArray, List.length_cons, List.length_nil, Nat.reduceAdd, Nat.reduceSub, Array.replicate_succ, Array.replicate_zero, List.push_toArray, List.append_toArray, List.nil_append, List.cons_append]
  gi_wp2_with (refine ⟨trivial, ?_⟩; gi_at_call 56; refine (names_in (n - 1) _ _).mono ?_; rintro e w' ⟨rfl, rfl⟩)
  rw [← hW1, ← hW2]
  clear hW1 hW2 ld0 hmm
  have hsz : (W2.alloc (.cells c.cells 26)).heap.size = w.heap.size + 5 := by simp [HS2.out]
  have e4 : ((((w.alloc (.cells c.cells 26)).alloc (.cells #[.bool false] 4)).alloc (.map #[] 0)).alloc (.cells #[.map (some (w.heap.size + 1 + 1))] 104)).heap.size = w.heap.size + 4 := by simp
  obtain ⟨W0, hW0⟩ : ∃ W0, W0 = W2.alloc (.cells c.cells 26) := ⟨_, rfl⟩
  rw [← hW0] at hsz HN0 HB4 ⊢
  have hb0 : Below w.heap.size w W0 := HN0.out.be
  refine wpIn_rangeFunc_ownG rfl h1 (gf := 79) (lb := #[.pointer (some ⟨w.heap.size + 1 + 1 + 1 + 1, 0, none⟩)]) rfl trivial (enters_of Tryd.func79 (by kernel_rfl) rfl)
    (w0 := W0) (encs := fun x : Nm => #[.string x.1]) (Kp := KpN w.heap.size (w.heap.size + 4)) (S := fun ys => ys = allNm o l) (Sp := fun pre => pre <+: allNm o l) (N := (allNm o l).length)
    (fun l₀ J Jx W hW hJ hJx hY h0 => names1_in Fence.wide (n - 1) trivial rfl (by omega) l₀ (w.heap.size + 4) w c o l HR.out J Jx (fun s A B hs hg => hJ s A B none hs hg (fun r e => by cases e)) hY W (hb0.trans (hW.mono hb0.size)) (HB4.out.below hW) h0)
    KpN.t (fun W l o o' h1 h2 _ _ => KpN.b (by rw [hsz]; omega) (by rw [hsz]; omega) W l o o' h1 h2) (Below.refl _ _) (fun _ => rfl)
    (fun pre W => ND w W pre)
    (fun cd pre W => cd = .ret ∧ BA W (w.heap.size + 1) 4 #[.bool false] ∧ ¬ (pre.map bsOf).Nodup ∧ Below w.heap.size w W)
    (fun s A B row hs hg hr => hs.grown hg (fun r e => by have := (hr r e).1; omega))
    (fun cd s A B row hs hg hr => ⟨hs.1, (hg.block _ hs.2.1.lt (fun e => by have := (hr _ e.symm).1; omega)).trans hs.2.1, hs.2.2.1, ⟨hg.os.trans hs.2.2.2.os, hg.tape.trans hs.2.2.2.tape, hg.output.trans hs.2.2.2.output, Nat.le_trans hs.2.2.2.size hg.size, fun k hk => (hg.block k (Nat.lt_of_lt_of_le hk hs.2.2.2.size) (fun e => by have := (hr _ e.symm).1; omega)).trans (hs.2.2.2.block k hk)⟩⟩)
    HN0.out
    (fun x => { tmps := #[.agg c.cells, .pointer (some ⟨w.heap.size, 0, none⟩), .pointer (some ⟨w.heap.size + 1, 0, none⟩), .pointer (some ⟨w.heap.size + 1 + 1 + 1, 0, none⟩), .string x.1, undef, undef, .map (some (w.heap.size + 1 + 1)), .agg c.cells, .func (.func 79) #[] #[.pointer (some ⟨w.heap.size + 1 + 1 + 1 + 1, 0, none⟩)], .string x.1, undef, undef, undef, undef, undef, undef, undef, undef, undef, undef], defers := [] }) ?assign ?body ?done ?stop
  case assign =>
    intro l x W K hK
    gi_wp2
    exact hK
  case body =>
    rintro l' pre x W hI hlt
    have hmc := hI.mb.cell 0
    have hrc := hI.rb.cell 0
    have hrf := hI.rb.fz 0
    simp at hmc hrc
    have hsx : x.1.size ≤ maxLen := by have := x.2; unfold maxLen; omega
    have HI := hid_of hI
    have hlk := look_seen (revN pre) x.1.data.toList
    have hfw := HF.out
    have hlen : (seenL (revN pre)).length < 100000 := by simp [seenL, revN]; omega
    have HL := hid_of hlen
    have hc2 : (W.alloc (.cells #[] 108)).cell? ⟨w.heap.size + 1 + 1 + 1, 0, none⟩ = some (.map (some (w.heap.size + 1 + 1))) := (World.cell?_of_block (a := ⟨w.heap.size + 1 + 1 + 1, 0, none⟩) (Below.heap_alloc _ _ _ hI.mb.lt)).trans hmc
    have hr2 : (W.alloc (.cells #[] 108)).cell? ⟨w.heap.size + 1, 0, none⟩ = some (.bool false) := (World.cell?_of_block (a := ⟨w.heap.size + 1, 0, none⟩) (Below.heap_alloc _ _ _ hI.rb.lt)).trans hrc
    have hbl1 : w.heap.size + 1 < W.heap.size := hI.rb.lt
    clear hI hlen hfw
    cases hc : (revN pre).contains x.1.data.toList
    · rw [hc] at hlk
      have l1 : ((look (seenL (revN pre)) x.1.data.toList).getD unit_) = .agg #[] := by rw [hlk]; rfl
      have l2 : (look (seenL (revN pre)) x.1.data.toList).isSome = false := by rw [hlk]; rfl
      have L1 := hid_of l1
      have L2 := hid_of l2
      have HC := hid_of hc
      clear hlk l1 l2 hc
      gi_wp2_with (first
        | (gi_at_lookup; refine wpListIn_lookT rfl _ _ 104 rfl 108 Tryd.underlying104 (zeroU _) (w.heap.size + 1 + 1) _ rfl HI.out.mp x.1 rfl hsx (.agg #[]) false L1.out L2.out ?_)
        | (gi_at_mapUpdate; refine wpListIn_putT rfl _ _ _ 104 rfl 108 Tryd.underlying104 (w.heap.size + 1 + 1) _ rfl (HI.out.mp.alloc _) HL.out x.1 (.agg #[]) rfl rfl hsx ?_; intro w4 hM hgr))
      have hn5 := HI.out.big
      have ha : ∀ k, k < W.heap.size → k ≠ w.heap.size + 1 + 1 → w4.heap[k]? = W.heap[k]? := fun k hk hne => (hgr.block k (by simp; omega) (fun e => hne (by injection e))).trans (Below.heap_alloc _ _ _ hk)
      have hsz4 : W.heap.size ≤ w4.heap.size := Nat.le_trans (by simp) hgr.size
      have hbel : Below w.heap.size W w4 := ⟨hgr.os, hgr.tape, hgr.output, hsz4, fun k hk => ha k (by omega) (by omega)⟩
      have hnc : bsOf x ∉ revN pre := fun hm => by have hq := HC.out; rw [show x.1.data.toList = bsOf x from rfl, List.contains_iff_mem.2 hm] at hq; cases hq
      refine ⟨((KeepsOthers.alloc W _).from _).trans (KeepsFrom.of_grownBy hgr (fun j e => by cases e; rw [hsz]; omega)), ⟨hbel, ha _ (by omega) (by omega)⟩, ⟨(ha _ (by omega) (by omega)).trans HI.out.mb, by rw [revN_snoc]; exact hM, (ha _ (by omega) (by omega)).trans HI.out.rb, ?_, HI.out.be.trans hbel, Nat.le_trans hn5 hsz4⟩⟩
      rw [List.map_append, List.nodup_append]
      refine ⟨HI.out.nd, by simp, fun a ha b hb => ?_⟩
      simp at hb
      subst hb
      rintro rfl
      exact hnc (by unfold revN; rw [List.mem_reverse]; exact ha)
    · rw [hc] at hlk
      have l1 : ((look (seenL (revN pre)) x.1.data.toList).getD unit_) = .agg #[] := by rw [hlk]; rfl
      have l2 : (look (seenL (revN pre)) x.1.data.toList).isSome = true := by rw [hlk]; rfl
      have L1 := hid_of l1
      have L2 := hid_of l2
      have HC := hid_of hc
      have hfz : (W.alloc (.cells #[] 108)).frozen? ⟨w.heap.size + 1, 0, none⟩ = false := BA.fz (HI.out.rb.below ((Below.refl _ _).alloc (Nat.le_refl _) _)) 0
      clear hlk l1 l2 hc
      gi_wp2_with (gi_at_lookup; refine wpListIn_lookT rfl _ _ 104 rfl 108 Tryd.underlying104 (zeroU _) (w.heap.size + 1 + 1) _ rfl HI.out.mp x.1 rfl hsx (.agg #[]) true L1.out L2.out ?_)
      refine ⟨((KeepsOthers.setCell W _ _).trans (KeepsOthers.alloc _ _)).from _, rfl, BA.below (HI.out.rb.set _) ((Below.refl _ _).alloc (Nat.le_refl _) _), ?_, (HI.out.be.setCell (p := ⟨w.heap.size + 1, 0, none⟩) (by simp) _).alloc (by simpa using HI.out.be.size) _⟩
      rw [List.map_append, List.nodup_append]
      rintro ⟨_, _, h3⟩
      have hm : bsOf x ∈ revN pre := List.contains_iff_mem.1 HC.out
      unfold revN at hm
      rw [List.mem_reverse] at hm
      exact h3 _ hm (bsOf x) (by simp) rfl
  case done =>
    rintro D ys W hD rfl hI hK
    have hrc := hI.rb.cell 0
    have hrf := hI.rb.fz 0
    simp at hrc
    have HI := hid_of hI
    have hnd : diffB o l = true := decide_eq_true hI.nd
    clear hI
    gi_wp2
    have hK' := (KeepsOthers.setCell W ⟨w.heap.size + 1, 0, none⟩ (.bool true)).same D _ hK rfl
    refine ⟨by simp, .inl ⟨_, _, rfl, run_takeDeferred hK', ?_⟩⟩
    have hc5 := cell_kept (World.cell?_setCell_same' W ⟨w.heap.size + 1, 0, none⟩ (.bool true) (by rw [hrc]; rfl)) (grownBy_putObj' _ D (.deferred none)) (fun r e => by cases e; exact ⟨_, hK', rfl⟩)
    refine ⟨.bool true, ?_, by rw [hnd], (HI.out.be.setCell (p := ⟨w.heap.size + 1, 0, none⟩) (by simp) _).trans (belowK_b (w := w) (Nat.le_refl _) _ D _ _ (by rw [hsz] at hD; omega) hK' rfl rfl)⟩
    simp [results, Tryd.f28, go_sem, hc5]
  case stop =>
    rintro D cd pre W hD hpre ⟨rfl, hb, hnn, hB⟩ hK
    have hrc := hb.cell 0
    simp at hrc
    have hnd : diffB o l = false := decide_eq_false fun h => hnn (List.Nodup.sublist (hpre.map bsOf).sublist h)
    gi_wp2
    refine ⟨by simp, .inl ⟨_, _, rfl, run_takeDeferred hK, ?_⟩⟩
    have hc5 := cell_kept hrc (grownBy_putObj' _ D (.deferred none)) (fun r e => by cases e; exact ⟨_, hK, rfl⟩)
    refine ⟨.bool false, ?_, by rw [hnd], hB.trans (belowK_b (w := w) (Nat.le_refl _) W D _ _ (by rw [hsz] at hD; omega) hK rfl rfl)⟩
    simp [results, Tryd.f28, go_sem, hc5]
theorem namesDiffer_any (w : World) (c : Sc) (o : Sy) (l : List (Pc × Sl)) (hr : SyR w c o l) (hfew : (allNm o l).length ≤ 1000) : Calls Tryd.prog 28 #[.agg c.cells] w fun e w' => e = .returned (.bool (diffB o l)) ∧ Below w.heap.size w w' := callsIn_wide.1 (namesD_in 8 (by omega) w c o l hr hfew)
end Go.Proofs.YtcppgpcgbggdcaaDoor
