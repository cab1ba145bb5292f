/-
  Layer 9: rows of trees, made part by part.
-/
import Derived.Test.YtllhcjmabhempaaDoorFst
import Derived.Test.YtllhcjmabhempaaDoorApp
namespace Go.Proofs.YtllhcjmabhempaaDoor
set_option linter.unusedVariables false
set_option linter.unusedSimpArgs false
open Go.ChangeShapes Go.WideShapes Go.ChangeAt Go.RowKit


attribute [local go_sem] fieldTk0 fieldTk3 hmf
attribute [local go_sem ↓] bslNd_seal
attribute [local go_sem] bslNd1_run bslNd2_run

/-- The cells of a row of nodes. -/
def ndC : List Nc → List Value
  | [] => []
  | c :: r => c.cells.toList ++ ndC r
theorem ndC_len : ∀ l : List Nc, (ndC l).length = l.length * 6
  | [] => rfl
  | c :: r => by rw [ndC, List.length_append, ndC_len r, Array.length_toList, Nc.size, List.length_cons]; omega
theorem ndC_app : ∀ a b : List Nc, ndC (a ++ b) = ndC a ++ ndC b
  | [], b => rfl
  | c :: r, b => by rw [List.cons_append, ndC, ndC, ndC_app r b, List.append_assoc]
theorem ndC_at : ∀ (l : List Nc) (k : Nat) (hk : k < l.length) (j : Nat), j < 6 → (ndC l)[k * 6 + j]? = (l[k]).cells[j]?
  | c :: r, 0, hk, j, hj => by
    rw [ndC, Nat.zero_mul, Nat.zero_add, List.getElem?_append_left (by simpa [Nc.size] using hj)]
    simp
  | c :: r, k + 1, hk, j, hj => by
    rw [ndC, List.getElem?_append_right (by simp [Nc.size]; omega)]
    rw [show (k + 1) * 6 + j - c.cells.toList.length = k * 6 + j by simp [Nc.size]; omega]
    exact ndC_at r k (by simpa using hk) j hj
/-- A row of the call's own, of trees: its cells, and each tree elsewhere. -/
structure Rw (X : World) (B : Nat) (v : Value) (l : List Nd) (cs : List Nc) : Prop where
  len : cs.length = l.length
  own : X.ownsRow B 31 6 v cs.length (ndC cs)
  nds : ∀ j (h : j < cs.length) (h2 : j < l.length), NdAt X (fun x => B ≤ x ∧ v.ownBlock ≠ some x) cs[j] l[j]
theorem own_lt' {X : World} {B : Nat} {e : TypeId} {k : Nat} {v : Value} {n : Nat} {xs : List Value} (h : X.ownsRow B e k v n xs) {q : Nat} (hq : v.ownBlock = some q) : q < X.heap.size ∧ B ≤ q := by
  rcases h.2 with ⟨hv, _⟩ | ⟨g, cap, cur, hv, hb, hg, _⟩
  · rw [hv] at hq; simp [Value.ownBlock] at hq
  · rw [hv] at hq
    simp only [Value.ownBlock, Option.some.injEq] at hq
    subst hq
    exact ⟨(Array.getElem?_eq_some_iff.1 hg).1, hb⟩
theorem own_gb {X Y : World} {B b : Nat} {e : TypeId} {k : Nat} {v : Value} {n : Nat} {xs : List Value} (h : X.ownsRow B e k v n xs) (hb : b < B) (hg : X.grownBy Y (some b)) : Y.ownsRow B e k v n xs := by
  refine ⟨h.1, ?_⟩
  rcases h.2 with hn | ⟨g, cap, cur, hv, hb1, hg1, rest⟩
  · exact .inl hn
  · exact .inr ⟨g, cap, cur, hv, hb1, (hg.block g (Array.getElem?_eq_some_iff.1 hg1).1 (fun e => by injection e with e; omega)).trans hg1, rest⟩
theorem Rw.step {X Y : World} {B b : Nat} {v : Value} {l : List Nd} {cs : List Nc} (h : Rw X B v l cs) (hb : b < B) (hg : X.grownBy Y (some b)) : Rw Y B v l cs :=
  ⟨h.len, own_gb h.own hb hg, fun j h1 h2 => (h.nds j h1 h2).stepP (b := b) (fun x hx => by omega) hg⟩
theorem kids_from {X : World} {B g cap : Nat} {l : List Nd} {cs : List Nc} (h : Rw X B (.slice (some ⟨g, 0, none⟩) l.length cap) l cs) : ∀ (n j : Nat), l.length - j = n → j ≤ l.length → KidsAt X (fun x => B ≤ x) (some ⟨g, 0, none⟩) j (l.drop j) := by
  intro n
  have hq := own_lt' h.own (q := g) rfl
  induction n with
  | zero => intro j hj hl; rw [List.drop_of_length_le (by omega)]; exact KidsAt.nil _ _
  | succ n ih =>
    intro j hj hl
    have hlt : j < l.length := by omega
    have hlc : j < cs.length := by rw [h.len]; exact hlt
    rw [List.drop_eq_getElem_cons hlt]
    refine KidsAt.cons g j cs[j] l[j] _ hq.2 hq.1 (fun i hi => ?_) ((h.nds j hlc hlt).keep (fun x hx _ => hx.1) (Nat.le_refl _) (fun _ _ _ => rfl)) (ih (j + 1) (by omega) (by omega))
    have e := ndC_at cs j hlc i hi
    have hs : (cs[j]).cells[i]? = some ((cs[j]).cells[i]'(by rw [Nc.size]; exact hi)) := Array.getElem?_eq_getElem _
    rw [hs] at e ⊢
    have := World.ownsRow.cells h.own (g := g) rfl _ _ e
    rwa [show (⟨g, 0, none⟩ : Addr).add (j * 6 + i) = ⟨g, j * 6 + i, none⟩ by simp [Addr.add]; omega] at this
theorem nd_one (c : Nc) : ∀ u ∈ c.cells.toList, u.oneCell' = true := by
  intro u hu
  simp only [Nc.cells, List.mem_cons, List.not_mem_nil, or_false] at hu
  rcases hu with rfl | rfl | rfl | rfl | rfl | rfl <;> rfl
theorem infoNd : (Tryd.prog.info? 31).map (fun i => (i.zero, i.size, i.bytes)) = some (some (.agg (⟨0, ⟨#[]⟩, 0, false, none, 0, 0, 0⟩ : Nc).cells), 6, 72) := by kernel_rfl
def appN (t : Array TypeId) (r : TypeId) (xs : Array Value) : Sem Value := Builtin.append_ t r xs
theorem appN_seal (t : Array TypeId) (r : TypeId) (xs : Array Value) : Builtin.append_ t r xs = appN t r xs := rfl
attribute [local go_sem ↓] appN_seal
theorem nd_cells (w : World) (X : Array Value) : ∀ j u, X.toList[j]? = some u → (w.alloc (.cells X 31)).cell? ((⟨w.heap.size, 0, none⟩ : Addr).add j) = some u := by
  intro j u h
  rw [show (⟨w.heap.size, 0, none⟩ : Addr).add j = ⟨w.heap.size, j, none⟩ by simp [Addr.add]; omega, rowAt_cell (rowAt_new _ _ _ _)]
  simpa using h
theorem Rw.app {X Y : World} {B : Nat} {v v' : Value} {l : List Nd} {cs : List Nc} {c : Nc} {n : Nd} (h : Rw X B v l cs) (ho : Y.ownsRow B 31 6 v' (cs.length + 1) (ndC cs ++ c.cells.toList)) (hg : X.grownBy Y v.ownBlock) (hv : v'.ownBlock = v.ownBlock ∨ v'.ownBlock = some X.heap.size)
    (hn : NdAt X (fun x => B ≤ x ∧ v.ownBlock ≠ some x) c n) : Rw Y B v' (l ++ [n]) (cs ++ [c]) := by
  have kp : ∀ {c' : Nc} {n' : Nd}, NdAt X (fun x => B ≤ x ∧ v.ownBlock ≠ some x) c' n' → NdAt Y (fun x => B ≤ x ∧ v'.ownBlock ≠ some x) c' n' := fun hh => hh.keep (fun x hx hl => ⟨hx.1, by
    rcases hv with e | e
    · rw [e]; exact hx.2
    · rw [e]; intro e2; injection e2 with e2; omega⟩) hg.size (fun x hx hl => hg.block x hl (fun e => hx.2 e.symm))
  refine ⟨by simp [h.len], ?_, fun j h1 h2 => ?_⟩
  · rw [List.length_append, ndC_app]
    simpa [ndC] using ho
  · by_cases hj : j < cs.length
    · rw [List.getElem_append_left hj, List.getElem_append_left (by rw [← h.len]; exact hj)]
      exact kp (h.nds j hj (by rw [← h.len]; exact hj))
    · have e1 : j = cs.length := by simp at h1; omega
      subst e1
      rw [List.getElem_append_right (Nat.le_refl _), List.getElem_append_right (by rw [h.len]; exact Nat.le_refl _)]
      simp only [Nat.sub_self, h.len]
      exact kp hn
/-- What a row's function leaves. -/
def PostL (w : World) (b g cap : Nat) (L : List Tok) (i o : Nat) (r : Rs Nd) (e : Ending) (w' : World) : Prop := match r with
  | .ok n t => ∃ g' m i', e = .returned (.slice (some ⟨g', 0, none⟩) n.kids.length m) ∧ t = L.drop i' ∧ i < i' ∧ St w w' b g cap L i' o ∧ KidsAt w' (fun x => w.heap.size ≤ x) (some ⟨g', 0, none⟩) 0 n.kids ∧ g' < w'.heap.size ∧ w.heap.size ≤ g' ∧ ∃ cs, Rw w' w.heap.size (.slice (some ⟨g', 0, none⟩) n.kids.length m) n.kids cs ∧ 0 < n.kids.length ∧ n.kids.length ≤ i'
  | .bad p er => e = gaveUp p er ∧ w.grownBy w' (some b)
theorem St.grow {w X Y : World} {b g cap i o : Nat} {L : List Tok} {e : TypeId} {k n : Nat} {v : Value} {xs : List Value} (h : St w X b g cap L i o) (bl : b < w.heap.size) (gl : g < w.heap.size) (ho : X.ownsRow w.heap.size e k v n xs) (hg : X.grownBy Y v.ownBlock) : St w Y b g cap L i o := by
  have far : ∀ q, q < w.heap.size → some q ≠ v.ownBlock := fun q hq e => by have := (own_lt' ho e.symm).2; omega
  exact ⟨h.rd.same (hg.block b h.rd.bl (far b bl)) (hg.block g h.rd.gl (far g gl)) hg.size, ⟨hg.os.trans h.gb.os, hg.tape.trans h.gb.tape, hg.output.trans h.gb.output, Nat.le_trans h.gb.size hg.size, fun q hq hne => (hg.block q (Nat.lt_of_lt_of_le hq h.gb.size) (far q hq)).trans (h.gb.block q hq hne)⟩⟩
def LpR_expr (w X : World) (b g cap : Nat) (L : List Tok) (i o : Nat) (s : Bs) (v : Value) (R : Rs Nd) (f j : Nat) : Prop := ∃ l cs f1, f1 ≤ f ∧ (if wd (L.drop j) = s then run f1 (.row s .expr l) o (L.drop (j + 1)) else .ok (lst l) (L.drop j)) = R ∧ (L.length - j) * 40 ≤ f1 ∧ i < j ∧ St w X b g cap L j o ∧ Rw X w.heap.size v l cs ∧ 0 < l.length ∧ l.length ≤ j
set_option maxHeartbeats 4000000 in
set_option maxRecDepth 20000 in
theorem row_expr (f : Nat) (hP : ∀ f', f' ≤ f → Pc 16 .expr f') (w : World) (b g cap : Nat) (L : List Tok) (i o : Nat) (s : Bs) (hs : s ≠ []) (h : RdAt w b g cap L i o) (hf : (L.length - i) * 40 + 22 ≤ f) :
    Calls Tryd.prog 33 #[.pointer (some ⟨b, 0, none⟩), .string (bs s), .func (.func 16) #[.pointer (some ⟨b, 0, none⟩)] #[]] w (PostL w b g cap L i o (run (f + 1) (.row s .expr []) o (L.drop i))) := by
  have bl := h.bl
  have gl := h.gl
  have hil := h.il
  have hll := h.ll
  have H : Hid (RdAt w b g cap L i o) := h
  have HP : Hid (∀ f', f' ≤ f → Pc 16 .expr f') := hP
  have P1 : Hid (∀ X, RdAt X b g cap L i o → Calls Tryd.prog 16 #[.pointer (some ⟨b, 0, none⟩)] X (PostN X b g cap L i o (run f .expr o (L.drop i)))) := fun X hX => hP f (Nat.le_refl _) X b g cap L i o hX (by show (L.length - i) * 40 + 20 ≤ f; omega)
  obtain ⟨i0, hi0, hz0, hz1, hz2⟩ := info_parts infoNd
  clear hP h
  rw [run]
  cases hr : run f .expr o (L.drop i) with
  | bad p e =>
    rw [hr] at P1
    rw [Rs.bind_bad]
    clear hr
    go_enter Tryd.func33, Tryd.ntmps33
    go_wp2_with (go_at_call 16; refine (P1.out _ H.out).mono ?_; rintro e w1 ⟨he, g1⟩; unfold gaveUp at he; subst he)
    exact ⟨rfl, rfl, g1⟩
  | ok x0 r0 =>
    rw [hr] at P1
    rw [Rs.bind_ok]
    clear hr
    generalize hR : (if wd r0 = s then run f (.row s .expr ([] ++ [x0])) o r0.tail else Rs.ok (lst ([] ++ [x0])) r0) = R
    have HR0 : Hid ((if wd r0 = s then run f (.row s .expr ([] ++ [x0])) o r0.tail else Rs.ok (lst ([] ++ [x0])) r0) = R) := hR
    clear hR
    go_enter Tryd.func33, Tryd.ntmps33
    go_wp2_with (go_at_call 16; refine (P1.out _ H.out).mono ?_; rintro e w1 ⟨c1, i1, rfl, ht1, hi1, s1, nd1⟩)
    have hs1 := s1.size
    have LP : LpR_expr w (w1.alloc (.cells c1.cells 31)) b g cap L i o s (.slice (some ⟨w1.heap.size, 0, none⟩) 1 1) R f i1 := by
      refine ⟨[x0], [c1], f, Nat.le_refl _, ?_, by omega, hi1, s1.alloc _, ⟨rfl, ⟨rfl, .inr ⟨w1.heap.size, 1, c1.cells, rfl, hs1, heap_new' _ _ rfl, Nat.le_refl _, by decide, rfl, ?_⟩⟩, fun j h1 h2 => ?_⟩, by simp, by simp; omega⟩
      · have := HR0.out
        rw [ht1] at this
        rw [← List.tail_drop]
        exact this
      · simp [ndC, Nc.cells]
      · have : j = 0 := by simp at h1; omega
        subst this
        exact nd1.keep (fun x hx hl => ⟨hx, by simp only [Value.ownBlock]; intro e; injection e with e; omega⟩) (by simp) (fun x hx hl => ((Below.refl _ _).alloc (Nat.le_refl _) _).block x hl)
    clear P1 s1 nd1 ht1 HR0
    generalize (Value.slice (some ⟨w1.heap.size, 0, none⟩) 1 1) = v0 at LP ⊢
    go_loopg [7] (L.length + 1) (fun gf s7 X => ∃ j, LpR_expr w X b g cap L i o s s7 R f j ∧ L.length + 1 ≤ j + gf)
    case atStart => exact ⟨i1, LP, by omega⟩
    case round =>
      obtain ⟨j, ⟨l, cs, f1, hf1, hrun, hfu, hij, SJ, RW, hl0, hlj⟩, hg⟩ := hrel
      have hjl := SJ.rd.il
      obtain ⟨g', rfl⟩ : ∃ g', gk = g' + 1 := ⟨gk - 1, by omega⟩
      obtain ⟨f2, rfl⟩ : ∃ f2, f1 = f2 + 1 := ⟨f1 - 1, by omega⟩
      have hsz := SJ.size
      have AJ : Hid (St w wr b g cap L j o ∧ Rw wr w.heap.size u7 l cs) := ⟨SJ, RW⟩
      have hcl : cs.length = l.length := RW.len
      clear SJ RW LP
      by_cases hk : wd (L.drop j) = s
      · rw [if_pos hk, run] at hrun
        have hn : j + 1 < L.length := AJ.out.1.rd.last j AJ.out.1.rd.il (by rw [← AJ.out.1.rd.hd]; exact wd_kind (by rw [hk]; exact hs))
        have FY := found_yes wr b g cap L j o AJ.out.1.rd s hs hk
        have PP : Hid (∀ X, RdAt X b g cap L (j + 1) o → Calls Tryd.prog 16 #[.pointer (some ⟨b, 0, none⟩)] X (PostN X b g cap L (j + 1) o (run f2 .expr o (L.drop (j + 1))))) := fun X hX => HP.out f2 (by omega) X b g cap L (j + 1) o hX (by show (L.length - (j + 1)) * 40 + 20 ≤ f2; omega)
        cases hr2 : run f2 .expr o (L.drop (j + 1)) with
        | bad p e =>
          rw [hr2] at PP hrun
          rw [Rs.bind_bad] at hrun
          have HR : Hid (R = .bad p e) := hrun.symm
          clear hr2 hrun hk
          go_wp2_with (first
            | (go_at_call 32; refine FY.mono ?_; rintro e w3 ⟨rfl, s3⟩; have A3 : Hid (St w w3 b g cap L (j + 1) o) := AJ.out.1.next s3)
            | (go_at_call 16; refine (PP.out _ A3.out.rd).mono ?_; rintro e w5 ⟨he, g5⟩; unfold gaveUp at he; subst he))
          rw [HR.out]
          exact ⟨rfl, rfl, gb_trans A3.out.gb g5⟩
        | ok x r =>
          rw [hr2] at PP hrun
          rw [Rs.bind_ok] at hrun
          have HR : Hid ((if wd r = s then run f2 (.row s .expr (l ++ [x])) o r.tail else Rs.ok (lst (l ++ [x])) r) = R) := hrun
          clear hr2 hrun hk
          have hb9 : ∀ q, u7.ownBlock = some q → q < wr.heap.size := fun q hq => (own_lt' AJ.out.2.own hq).1
          go_wp2_with (first
            | (go_at_call 32; refine FY.mono ?_; rintro e w3 ⟨rfl, s3⟩; have hs3 := s3.size; have A3 : Hid (St w w3 b g cap L (j + 1) o ∧ Rw w3 w.heap.size u7 l cs) := ⟨AJ.out.1.next s3, AJ.out.2.step bl s3.gb⟩)
            | (go_at_call 16; refine (PP.out _ A3.out.1.rd).mono ?_; rintro e w5 ⟨c5, i5, rfl, ht5, hi5, s5, nd5⟩; have hs5 := s5.size; have R5 : Rw (w5.alloc (.cells c5.cells 31)) w.heap.size u7 l cs := (A3.out.2.step bl s5.gb).step bl (gb_of_below (by go_grown) b); have hi5l := s5.rd.il; obtain ⟨v6, w6, hrun6, hown6, hgrow6, _⟩ := run_append_own (P := Tryd.prog) (w := w5.alloc (.cells c5.cells 31)) w.heap.size 29 29 31 i0 _ 6 72 Tryd.underlying29 hi0 hz0 hz1 hz2 rfl (by decide) u7 cs.length _ R5.own ⟨w5.heap.size, 0, none⟩ 1 1 c5.cells.toList rfl (nd_cells _ _) (nd_one _) (by unfold maxLen; omega) (by omega) (by simp; omega); have hblk := append_block (P := Tryd.prog) (w := w5.alloc (.cells c5.cells 31)) w.heap.size 29 29 31 i0 _ 6 72 Tryd.underlying29 hi0 hz0 hz1 hz2 u7 cs.length _ R5.own ⟨w5.heap.size, 0, none⟩ 1 1 c5.cells.toList (by omega) rfl (nd_cells _ _) (nd_one _) (by unfold maxLen; omega) (by omega) hrun6; have R6 : Hid (Rw w6 w.heap.size v6 (l ++ [x]) (cs ++ [c5])) := R5.app hown6 hgrow6 hblk (nd5.keep (fun y hy hl => ⟨by omega, fun e => by have := hb9 y e; omega⟩) (by simp) (fun y hy hl => ((Below.refl _ _).alloc (Nat.le_refl _) _).block y hl)); have S6 : Hid (St w w6 b g cap L i5 o ∧ r = L.drop i5 ∧ j + 1 < i5) := ⟨((A3.out.1.next s5).alloc _).grow bl gl R5.own hgrow6, ht5, hi5⟩; rw [appN_seal] at hrun6; clear hown6 hgrow6 hblk R5 nd5 s5 ht5 hi5))
          have LN : LpR_expr w w6 b g cap L i o s v6 R f i5 := by
            have e5 := S6.out.2.1
            have e6 := S6.out.2.2
            have e7 := S6.out.1.rd.il
            refine ⟨l ++ [x], cs ++ [c5], f2, by omega, ?_, by omega, by omega, S6.out.1, R6.out, by simp, by simp; omega⟩
            have := HR.out
            rw [e5, List.tail_drop] at this
            exact this
          have e6 := S6.out.2.2
          go_roundg g'
          case measure => omega
          case rel => exact ⟨i5, LN, by omega⟩
      · rw [if_neg hk] at hrun
        have HR : Hid (R = .ok (lst l) (L.drop j)) := hrun.symm
        have FN := found_no wr b g cap L j o AJ.out.1.rd s hk
        clear hrun hk
        go_wp2_with (go_at_call 32; refine FN.mono ?_; rintro e w3 ⟨rfl, hb3⟩; have A3 : Hid (St w w3 b g cap L j o ∧ Rw w3 w.heap.size u7 l cs) := ⟨AJ.out.1.below hb3, AJ.out.2.step bl (gb_of_below hb3 b)⟩)
        rw [HR.out]
        have ro := A3.out.2
        rcases ro.own.2 with ⟨_, hz⟩ | ⟨g2, cp, cur, rfl, h1, h2, _⟩
        · omega
        · rw [hcl] at ro ⊢
          go_ret
          exact ⟨g2, cp, j, rfl, rfl, hij, A3.out.1, by have := kids_from ro l.length 0 rfl (Nat.zero_le _); rw [List.drop_zero] at this; exact this, (Array.getElem?_eq_some_iff.1 h2).1, h1, cs, ro, hl0, hlj⟩
def LpR_elem (w X : World) (b g cap : Nat) (L : List Tok) (i o : Nat) (s : Bs) (v : Value) (R : Rs Nd) (f j : Nat) : Prop := ∃ l cs f1, f1 ≤ f ∧ (if wd (L.drop j) = s then run f1 (.row s .elem l) o (L.drop (j + 1)) else .ok (lst l) (L.drop j)) = R ∧ (L.length - j) * 40 ≤ f1 ∧ i < j ∧ St w X b g cap L j o ∧ Rw X w.heap.size v l cs ∧ 0 < l.length ∧ l.length ≤ j
set_option maxHeartbeats 4000000 in
set_option maxRecDepth 20000 in
theorem row_elem (f : Nat) (hP : ∀ f', f' ≤ f → Pc 88 .elem f') (w : World) (b g cap : Nat) (L : List Tok) (i o : Nat) (s : Bs) (hs : s ≠ []) (h : RdAt w b g cap L i o) (hf : (L.length - i) * 40 + 22 ≤ f) :
    Calls Tryd.prog 33 #[.pointer (some ⟨b, 0, none⟩), .string (bs s), .func (.func 88) #[.pointer (some ⟨b, 0, none⟩)] #[]] w (PostL w b g cap L i o (run (f + 1) (.row s .elem []) o (L.drop i))) := by
  have bl := h.bl
  have gl := h.gl
  have hil := h.il
  have hll := h.ll
  have H : Hid (RdAt w b g cap L i o) := h
  have HP : Hid (∀ f', f' ≤ f → Pc 88 .elem f') := hP
  have P1 : Hid (∀ X, RdAt X b g cap L i o → Calls Tryd.prog 88 #[.pointer (some ⟨b, 0, none⟩)] X (PostN X b g cap L i o (run f .elem o (L.drop i)))) := fun X hX => hP f (Nat.le_refl _) X b g cap L i o hX (by show (L.length - i) * 40 + 22 ≤ f; omega)
  obtain ⟨i0, hi0, hz0, hz1, hz2⟩ := info_parts infoNd
  clear hP h
  rw [run]
  cases hr : run f .elem o (L.drop i) with
  | bad p e =>
    rw [hr] at P1
    rw [Rs.bind_bad]
    clear hr
    go_enter Tryd.func33, Tryd.ntmps33
    go_wp2_with (go_at_call 88; refine (P1.out _ H.out).mono ?_; rintro e w1 ⟨he, g1⟩; unfold gaveUp at he; subst he)
    exact ⟨rfl, rfl, g1⟩
  | ok x0 r0 =>
    rw [hr] at P1
    rw [Rs.bind_ok]
    clear hr
    generalize hR : (if wd r0 = s then run f (.row s .elem ([] ++ [x0])) o r0.tail else Rs.ok (lst ([] ++ [x0])) r0) = R
    have HR0 : Hid ((if wd r0 = s then run f (.row s .elem ([] ++ [x0])) o r0.tail else Rs.ok (lst ([] ++ [x0])) r0) = R) := hR
    clear hR
    go_enter Tryd.func33, Tryd.ntmps33
    go_wp2_with (go_at_call 88; refine (P1.out _ H.out).mono ?_; rintro e w1 ⟨c1, i1, rfl, ht1, hi1, s1, nd1⟩)
    have hs1 := s1.size
    have LP : LpR_elem w (w1.alloc (.cells c1.cells 31)) b g cap L i o s (.slice (some ⟨w1.heap.size, 0, none⟩) 1 1) R f i1 := by
      refine ⟨[x0], [c1], f, Nat.le_refl _, ?_, by omega, hi1, s1.alloc _, ⟨rfl, ⟨rfl, .inr ⟨w1.heap.size, 1, c1.cells, rfl, hs1, heap_new' _ _ rfl, Nat.le_refl _, by decide, rfl, ?_⟩⟩, fun j h1 h2 => ?_⟩, by simp, by simp; omega⟩
      · have := HR0.out
        rw [ht1] at this
        rw [← List.tail_drop]
        exact this
      · simp [ndC, Nc.cells]
      · have : j = 0 := by simp at h1; omega
        subst this
        exact nd1.keep (fun x hx hl => ⟨hx, by simp only [Value.ownBlock]; intro e; injection e with e; omega⟩) (by simp) (fun x hx hl => ((Below.refl _ _).alloc (Nat.le_refl _) _).block x hl)
    clear P1 s1 nd1 ht1 HR0
    generalize (Value.slice (some ⟨w1.heap.size, 0, none⟩) 1 1) = v0 at LP ⊢
    go_loopg [7] (L.length + 1) (fun gf s7 X => ∃ j, LpR_elem w X b g cap L i o s s7 R f j ∧ L.length + 1 ≤ j + gf)
    case atStart => exact ⟨i1, LP, by omega⟩
    case round =>
      obtain ⟨j, ⟨l, cs, f1, hf1, hrun, hfu, hij, SJ, RW, hl0, hlj⟩, hg⟩ := hrel
      have hjl := SJ.rd.il
      obtain ⟨g', rfl⟩ : ∃ g', gk = g' + 1 := ⟨gk - 1, by omega⟩
      obtain ⟨f2, rfl⟩ : ∃ f2, f1 = f2 + 1 := ⟨f1 - 1, by omega⟩
      have hsz := SJ.size
      have AJ : Hid (St w wr b g cap L j o ∧ Rw wr w.heap.size u7 l cs) := ⟨SJ, RW⟩
      have hcl : cs.length = l.length := RW.len
      clear SJ RW LP
      by_cases hk : wd (L.drop j) = s
      · rw [if_pos hk, run] at hrun
        have hn : j + 1 < L.length := AJ.out.1.rd.last j AJ.out.1.rd.il (by rw [← AJ.out.1.rd.hd]; exact wd_kind (by rw [hk]; exact hs))
        have FY := found_yes wr b g cap L j o AJ.out.1.rd s hs hk
        have PP : Hid (∀ X, RdAt X b g cap L (j + 1) o → Calls Tryd.prog 88 #[.pointer (some ⟨b, 0, none⟩)] X (PostN X b g cap L (j + 1) o (run f2 .elem o (L.drop (j + 1))))) := fun X hX => HP.out f2 (by omega) X b g cap L (j + 1) o hX (by show (L.length - (j + 1)) * 40 + 22 ≤ f2; omega)
        cases hr2 : run f2 .elem o (L.drop (j + 1)) with
        | bad p e =>
          rw [hr2] at PP hrun
          rw [Rs.bind_bad] at hrun
          have HR : Hid (R = .bad p e) := hrun.symm
          clear hr2 hrun hk
          go_wp2_with (first
            | (go_at_call 32; refine FY.mono ?_; rintro e w3 ⟨rfl, s3⟩; have A3 : Hid (St w w3 b g cap L (j + 1) o) := AJ.out.1.next s3)
            | (go_at_call 88; refine (PP.out _ A3.out.rd).mono ?_; rintro e w5 ⟨he, g5⟩; unfold gaveUp at he; subst he))
          rw [HR.out]
          exact ⟨rfl, rfl, gb_trans A3.out.gb g5⟩
        | ok x r =>
          rw [hr2] at PP hrun
          rw [Rs.bind_ok] at hrun
          have HR : Hid ((if wd r = s then run f2 (.row s .elem (l ++ [x])) o r.tail else Rs.ok (lst (l ++ [x])) r) = R) := hrun
          clear hr2 hrun hk
          have hb9 : ∀ q, u7.ownBlock = some q → q < wr.heap.size := fun q hq => (own_lt' AJ.out.2.own hq).1
          go_wp2_with (first
            | (go_at_call 32; refine FY.mono ?_; rintro e w3 ⟨rfl, s3⟩; have hs3 := s3.size; have A3 : Hid (St w w3 b g cap L (j + 1) o ∧ Rw w3 w.heap.size u7 l cs) := ⟨AJ.out.1.next s3, AJ.out.2.step bl s3.gb⟩)
            | (go_at_call 88; refine (PP.out _ A3.out.1.rd).mono ?_; rintro e w5 ⟨c5, i5, rfl, ht5, hi5, s5, nd5⟩; have hs5 := s5.size; have R5 : Rw (w5.alloc (.cells c5.cells 31)) w.heap.size u7 l cs := (A3.out.2.step bl s5.gb).step bl (gb_of_below (by go_grown) b); have hi5l := s5.rd.il; obtain ⟨v6, w6, hrun6, hown6, hgrow6, _⟩ := run_append_own (P := Tryd.prog) (w := w5.alloc (.cells c5.cells 31)) w.heap.size 29 29 31 i0 _ 6 72 Tryd.underlying29 hi0 hz0 hz1 hz2 rfl (by decide) u7 cs.length _ R5.own ⟨w5.heap.size, 0, none⟩ 1 1 c5.cells.toList rfl (nd_cells _ _) (nd_one _) (by unfold maxLen; omega) (by omega) (by simp; omega); have hblk := append_block (P := Tryd.prog) (w := w5.alloc (.cells c5.cells 31)) w.heap.size 29 29 31 i0 _ 6 72 Tryd.underlying29 hi0 hz0 hz1 hz2 u7 cs.length _ R5.own ⟨w5.heap.size, 0, none⟩ 1 1 c5.cells.toList (by omega) rfl (nd_cells _ _) (nd_one _) (by unfold maxLen; omega) (by omega) hrun6; have R6 : Hid (Rw w6 w.heap.size v6 (l ++ [x]) (cs ++ [c5])) := R5.app hown6 hgrow6 hblk (nd5.keep (fun y hy hl => ⟨by omega, fun e => by have := hb9 y e; omega⟩) (by simp) (fun y hy hl => ((Below.refl _ _).alloc (Nat.le_refl _) _).block y hl)); have S6 : Hid (St w w6 b g cap L i5 o ∧ r = L.drop i5 ∧ j + 1 < i5) := ⟨((A3.out.1.next s5).alloc _).grow bl gl R5.own hgrow6, ht5, hi5⟩; rw [appN_seal] at hrun6; clear hown6 hgrow6 hblk R5 nd5 s5 ht5 hi5))
          have LN : LpR_elem w w6 b g cap L i o s v6 R f i5 := by
            have e5 := S6.out.2.1
            have e6 := S6.out.2.2
            have e7 := S6.out.1.rd.il
            refine ⟨l ++ [x], cs ++ [c5], f2, by omega, ?_, by omega, by omega, S6.out.1, R6.out, by simp, by simp; omega⟩
            have := HR.out
            rw [e5, List.tail_drop] at this
            exact this
          have e6 := S6.out.2.2
          go_roundg g'
          case measure => omega
          case rel => exact ⟨i5, LN, by omega⟩
      · rw [if_neg hk] at hrun
        have HR : Hid (R = .ok (lst l) (L.drop j)) := hrun.symm
        have FN := found_no wr b g cap L j o AJ.out.1.rd s hk
        clear hrun hk
        go_wp2_with (go_at_call 32; refine FN.mono ?_; rintro e w3 ⟨rfl, hb3⟩; have A3 : Hid (St w w3 b g cap L j o ∧ Rw w3 w.heap.size u7 l cs) := ⟨AJ.out.1.below hb3, AJ.out.2.step bl (gb_of_below hb3 b)⟩)
        rw [HR.out]
        have ro := A3.out.2
        rcases ro.own.2 with ⟨_, hz⟩ | ⟨g2, cp, cur, rfl, h1, h2, _⟩
        · omega
        · rw [hcl] at ro ⊢
          go_ret
          exact ⟨g2, cp, j, rfl, rfl, hij, A3.out.1, by have := kids_from ro l.length 0 rfl (Nat.zero_le _); rw [List.drop_zero] at this; exact this, (Array.getElem?_eq_some_iff.1 h2).1, h1, cs, ro, hl0, hlj⟩
end Go.Proofs.YtllhcjmabhempaaDoor
