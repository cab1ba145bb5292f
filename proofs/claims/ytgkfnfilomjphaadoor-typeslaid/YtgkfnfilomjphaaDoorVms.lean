/-
  Layer 11: sets of names: what is in them, and how many; a field copied into a box.
-/
import Derived.Test.YtgkfnfilomjphaaDoorVhn
namespace Go.Proofs.YtgkfnfilomjphaaDoor
set_option linter.unusedVariables false
set_option linter.unusedSimpArgs false
open Go.ChangeShapes Go.WideShapes Go.ChangeAt Go.RowKit Go.Maps
attribute [local go_sem ↓] ldY_seal stY_seal ldF_seal stF_seal

/-- How many there are, each once. -/
def cntL : List Bs → Nat
  | [] => 0
  | x :: r => if r.contains x then cntL r else cntL r + 1
theorem cnt_le : ∀ N : List Bs, cntL N ≤ N.length
  | [] => Nat.le_refl _
  | x :: r => by
    have := cnt_le r
    rw [cntL, List.length_cons]
    split <;> omega
theorem cnt_nodup : ∀ N : List Bs, cntL N = N.length ↔ N.Nodup
  | [] => by simp [cntL]
  | x :: r => by
    have h1 := cnt_le r
    have h2 := cnt_nodup r
    rw [cntL, List.length_cons, List.nodup_cons]
    by_cases h : r.contains x = true
    · rw [if_pos h]
      have hm : x ∈ r := by simpa using h
      exact ⟨fun e => by omega, fun e => absurd hm e.1⟩
    · rw [if_neg h]
      have hm : ¬ x ∈ r := by simpa using h
      rw [← h2]
      exact ⟨fun e => ⟨hm, by omega⟩, fun e => by omega⟩
structure MapS (w : World) (b : Nat) (N : List Bs) : Prop where
  own : ∃ D, w.ownsMap Tryd.prog 9 RV b N.length D ∧ Tidy D ∧ (∀ k, Maps.has D (.string k) = N.contains k) ∧ (∀ k, N.contains k = true → ∀ z, D.atKey (.string k) z = .held unit_) ∧ Maps.size D = cntL N
theorem MapS.is {w : World} {b : Nat} {N : List Bs} (h : MapS w b N) : MapIs w b (seenL N) := by
  obtain ⟨D, h1, h2, h3, h4, h5⟩ := h.own
  refine ⟨D, by simpa [seenL] using h1, h2.isMap, fun k => ?_, fun k v hv z => ?_⟩
  · rw [h3, look_seen]; cases N.contains k <;> rfl
  · rw [look_seen] at hv
    cases hc : N.contains k
    · rw [hc] at hv; cases hv
    · rw [hc] at hv
      injection hv with hv
      rw [← hv]
      exact h4 k hc z
theorem MapS.block {w w' : World} {b : Nat} {N : List Bs} (h : MapS w b N) (hb : w'.heap[b]? = w.heap[b]?) : MapS w' b N := by
  obtain ⟨D, ⟨es, c, h1, h2⟩, h3⟩ := h.own
  exact ⟨D, ⟨es, c, hb.trans h1, h2⟩, h3⟩
theorem MapS.lt {w : World} {b : Nat} {N : List Bs} (h : MapS w b N) : b < w.heap.size := h.is.lt
theorem MapS.call {w w' : World} {b : Nat} {N : List Bs} (h : MapS w b N) (hb : Below w.heap.size w w') : MapS w' b N := h.block (hb.block b h.lt)
theorem MapS.made (w : World) : MapS (w.alloc (.map #[] 0)) w.heap.size [] := ⟨.map [], World.ownsMap_made w _ _ _, tidy_empty, fun k => rfl, fun k h => by simp at h, rfl⟩
theorem MapS.put {w : World} {b : Nat} {N : List Bs} (h : MapS w b N) (hn : N.length < 100000) {t e : TypeId} (ht : Tryd.prog.underlying t = some (.map 9 e)) (s : ByteArray) (hs : s.size ≤ maxLen) :
    ∃ w', (Instr.mapUpdate t (.map (some b)) (.string s) unit_).run Tryd.prog w = .ok () w' ∧ MapS w' b (s.data.toList :: N) ∧ w.grownBy w' (some b) := by
  obtain ⟨D, hD, hm, hh, ha, hz⟩ := h.own
  have hk := WideMaps.keyOf_string_mk Tryd.underlying9 hs
  obtain ⟨w', hrun, hD', hg⟩ := hD.update keyed9 ht (by unfold maxLen; omega) hk (d := .held unit_) (ps := []) (show RV unit_ = _ from rfl)
  refine ⟨w', hrun, ⟨_, hD', hm.put (keyed9.key hk) _, fun k => ?_, fun k hc z => ?_, ?_⟩, hg⟩
  · rw [List.contains_cons]
    by_cases e1 : s.data.toList = k
    · subst e1
      rw [has_put_same hm.isMap (keyed9.key hk)]; simp
    · rw [has_put_other (by simpa using fun e => e1 e.symm), hh]
      have : (k == s.data.toList) = false := by simpa using fun e => e1 e.symm
      rw [this, Bool.false_or]
  · by_cases e1 : s.data.toList = k
    · subst e1
      rw [atKey_put_same hm.isMap (keyed9.key hk)]
    · rw [atKey_put_other (by simpa using fun e => e1 e.symm)]
      refine ha k ?_ z
      rw [List.contains_cons] at hc
      have : (k == s.data.toList) = false := by simpa using fun e => e1 e.symm
      rwa [this, Bool.false_or] at hc
  · rw [size_put hm, hh, hz, cntL]
theorem wpList_putS {w : World} {ops : Array Oper} {rest : List Oper} {o : Oper} {a : Act} {Q : Exit → Act → World → Prop} (hg : o.guard = none) (m x v : Operand) (t : TypeId) (hop : o.op = Op.mapUpdate t m x v) (e : TypeId) (ht : Tryd.prog.underlying t = some (.map 9 e)) (b : Nat) (N : List Bs) (hm : a.eval m = .map (some b)) (hM : MapS w b N) (hn : N.length < 100000)
    (s : ByteArray) (hx : a.eval x = .string s) (hv : a.eval v = unit_) (hs : s.size ≤ maxLen)
    (hK : ∀ w', MapS w' b (s.data.toList :: N) → w.grownBy w' (some b) → wpList Tryd.prog ops Q rest (a.put o.dst undef) w') : wpList Tryd.prog ops Q (o :: rest) a w := by
  refine wpList_plain hg fun K' hK' => ?_
  obtain ⟨w', hrun, r1, r2⟩ := hM.put hn ht s hs
  unfold Oper.wp
  simp [execOp, hop, hm, hx, hv, hrun, Result.andThen]
  exact hK' _ _ (hK w' r1 r2)
theorem wpList_lenS {w : World} {ops : Array Oper} {rest : List Oper} {o : Oper} {a : Act} {Q : Exit → Act → World → Prop} (hg : o.guard = none) (m : Operand) (t : TypeId) (hop : o.op = Op.call { callee := Callee.builtin Builtin.len, args := #[m], argTypes := #[t] }) (e : TypeId) (ht : Tryd.prog.underlying t = some (.map 9 e)) (b : Nat) (N : List Bs) (hm : a.eval m = .map (some b)) (hM : MapS w b N)
    (hK : wpList Tryd.prog ops Q rest (a.put o.dst (.int .i64 (cntL N))) w) : wpList Tryd.prog ops Q (o :: rest) a w := by
  obtain ⟨D, hD, _, _, _, hz⟩ := hM.own
  refine wpList_len_own _ hg m t hop 9 e ht RV b N.length D hm hD ?_
  rw [hz]
  exact hK
def ZF : Array Value := #[.string ⟨#[]⟩, .int .i64 0, .int .i64 0]
theorem gb_put {X Z : World} {cs : Array Value} {ty : TypeId} (z : Tq (X.alloc (.cells cs ty)) Z (fun k => k = X.heap.size)) : X.grownBy Z none := ⟨z.os, z.tape, z.output, Nat.le_trans (by simp) z.size, fun k hk _ => (z.blk k (by simp; omega) (by omega)).trans (Below.heap_alloc _ _ _ hk)⟩
/-- A field, copied into a box. -/
theorem box_fd {v W : World} {s : Sl} {xs : List Fd} (h : RdV v 3 s xs.length (flat fdE xs)) (hb : Below v.heap.size v W) (i : Nat) (hi : i < xs.length) : ∃ g off Z cc, s.a = some ⟨g, off, none⟩ ∧ (ldT 33 ⟨g, off + i * 3, none⟩).run Tryd.prog W = .ok (.agg cc) W ∧ (stT 33 ⟨W.heap.size, 0, none⟩ (.agg cc)).run Tryd.prog (W.alloc (.cells ZF 33)) = .ok () Z ∧ BA Z W.heap.size 33 (fdE xs[i]) ∧ Hid (Below W.heap.size W Z) := by
  obtain ⟨g, off, ha, hg, hc⟩ := (h.below hb).elem (fun _ => rfl) i hi
  have hl0 := ldT_mid (ty := 33) hc Tryd.underlying33 rfl (by kernel_rfl)
  obtain ⟨Z, z1, z2, z3⟩ := stT_run (w := W.alloc (.cells ZF 33)) (fdE xs[i]) (BA.new W _ ZF) rfl (by kernel_rfl) (fd_one _)
  have hg := gb_put z3
  exact ⟨g, off, Z, _, ha, hl0, z1, z2, hid_of ⟨hg.os, hg.tape, hg.output, hg.size, fun k hk => hg.block k hk (by simp)⟩⟩
end Go.Proofs.YtgkfnfilomjphaaDoor
