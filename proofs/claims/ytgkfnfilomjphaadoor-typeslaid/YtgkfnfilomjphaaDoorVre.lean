/-
  Layer 11: a row that grows while it is read.
-/
import Derived.Test.YtgkfnfilomjphaaDoorVrc
import Derived.Test.YtgkfnfilomjphaaDoorVal
import Derived.Laws.MakeOwn
import Derived.Maps.AppendAt
namespace Go.Proofs.YtgkfnfilomjphaaDoor
set_option linter.unusedVariables false
set_option linter.unusedSimpArgs false
open Go.ChangeShapes Go.WideShapes Go.ChangeAt Go.RowKit Go.Maps

/-- An element put behind a row of the call's own, and where the row then lies. -/
theorem app_elG {X : World} {B n k by_ : Nat} {v : Value} {xs : List Value} {ts e : TypeId} {i : TypeInfo} {z : Value} (ht : Tryd.prog.underlying ts = some (.slice e)) (hi : Tryd.prog.info? e = some i) (hz : i.zero = some z) (hsize : i.size = k) (hby : i.bytes = by_) (hzs : z.cells.size = k) (hk : 0 < k) (cs : Array Value) (hcs : cs.size = k) (h1 : ∀ u ∈ cs.toList, u.oneCell' = true) (h : X.ownsRow B e k v n xs) (hB : B ≤ X.heap.size) (hn : n + 1 ≤ maxLen) (hb : (n + 1) * by_ ≤ 140737488355328) :
    ∃ (s : Sl) (Y : World), (appN #[ts, ts] ts #[v, .slice (some ⟨X.heap.size, 0, none⟩) 1 1]).run Tryd.prog (X.alloc (.cells cs e)) = .ok (.slice s.a s.n s.c) Y ∧ Y.ownsRow B e k (.slice s.a s.n s.c) (n + 1) (xs ++ cs.toList) ∧ (X.alloc (.cells cs e)).grownBy Y v.ownBlock ∧ ∀ q, (Value.slice s.a s.n s.c).ownBlock = some q → v.ownBlock = some q ∨ X.heap.size ≤ q := by
  have hbl : (X.alloc (.cells cs e)).ownsRow B e k v n xs := h.alloc _
  obtain ⟨v', Y, r1, r2, r3, _, r5⟩ := run_append_own_at (P := Tryd.prog) (w := X.alloc (.cells cs e)) B ts ts e i z k by_ ht hi hz hsize hby hzs hk v n xs hbl ⟨X.heap.size, 0, none⟩ 1 1 cs.toList (by rw [Array.length_toList, hcs, Nat.one_mul]) (fun j u hu => by
    have hbk : (X.alloc (.cells cs e)).heap[X.heap.size]? = some (.cells cs e (0, 0)) := blk_new _ _
    rw [Go.WideShapes.add_plain, Nat.zero_add, blk_cell hbk]
    simpa using hu) h1 hn hb (by simp; omega)
  obtain ⟨va, vn, vc, rfl⟩ := own_slice r2
  refine ⟨⟨va, vn, vc⟩, Y, r1, r2, r3, fun q hq => ?_⟩
  rcases r5 with e | e
  · exact .inl (e ▸ hq)
  · rw [e] at hq
    injection hq with hq
    right
    rw [← hq]
    simp
theorem app_boxG {X : World} {B ob n k by_ j : Nat} {xs : List Value} {ty ts E : TypeId} {i : TypeInfo} {z : Value} {sl : Sl} {cs : Array Value} (hx : BA X ob ty cs) (hne : ty ≠ E) (hj : cs[j]? = some (.slice sl.a sl.n sl.c)) (ht : Tryd.prog.underlying ts = some (.slice E)) (hi : Tryd.prog.info? E = some i) (hz : i.zero = some z) (hsize : i.size = k) (hby : i.bytes = by_) (hzs : z.cells.size = k) (hk : 0 < k) (es : Array Value) (hes : es.size = k) (h1 : ∀ u ∈ es.toList, u.oneCell' = true) (h : X.ownsRow B E k (.slice sl.a sl.n sl.c) n xs) (hB : B ≤ X.heap.size) (hn : n + 1 ≤ maxLen) (hb : (n + 1) * by_ ≤ 140737488355328) :
    ∃ (s' : Sl) (Y : World), (appN #[ts, ts] ts #[.slice sl.a sl.n sl.c, .slice (some ⟨X.heap.size, 0, none⟩) 1 1]).run Tryd.prog (X.alloc (.cells es E)) = .ok (.slice s'.a s'.n s'.c) Y ∧ Y.cell? ⟨ob, j, none⟩ = some (.slice sl.a sl.n sl.c) ∧ Y.frozen? ⟨ob, j, none⟩ = false ∧ X.cell? ⟨ob, j, none⟩ = some (.slice sl.a sl.n sl.c) ∧ (X.alloc (.cells es E)).cell? ⟨ob, j, none⟩ = some (.slice sl.a sl.n sl.c) ∧ Hid (BA (Y.setCell ⟨ob, j, none⟩ (.slice s'.a s'.n s'.c)) ob ty (cs.setIfInBounds j (.slice s'.a s'.n s'.c)) ∧ (Y.setCell ⟨ob, j, none⟩ (.slice s'.a s'.n s'.c)).ownsRow B E k (.slice s'.a s'.n s'.c) (n + 1) (xs ++ es.toList) ∧ Tq X (Y.setCell ⟨ob, j, none⟩ (.slice s'.a s'.n s'.c)) (fun y => y = ob ∨ (Value.slice sl.a sl.n sl.c).ownBlock = some y) ∧ ∀ q, (Value.slice s'.a s'.n s'.c).ownBlock = some q → (Value.slice sl.a sl.n sl.c).ownBlock = some q ∨ X.heap.size ≤ q) := by
  obtain ⟨s', Y, r1, r2, r3, r4⟩ := app_elG ht hi hz hsize hby hzs hk es hes h1 h hB hn hb
  have hA : BA (X.alloc (.cells es E)) ob ty cs := hx.below ((Below.refl _ _).alloc (Nat.le_refl _) _)
  have tY : Tq (X.alloc (.cells es E)) Y (fun g => (Value.slice sl.a sl.n sl.c).ownBlock = some g) := Tq.gb r3 fun k e => e
  have oY : BA Y ob ty cs := hA.tq tY (fun e => own_boxH h hx hne e rfl)
  have tS : Tq Y (Y.setCell ⟨ob, j, none⟩ (.slice s'.a s'.n s'.c)) (fun g => g = ob) := Tq.set rfl
  refine ⟨s', Y, r1, (oY.cell j).trans hj, oY.fz j, (hx.cell j).trans hj, (hA.cell j).trans hj, oY.set _, tS.own r2 (fun g hg => own_boxH r2 oY hne hg), ?_, r4⟩
  exact ((Tq.below (P := fun y => y = ob ∨ (Value.slice sl.a sl.n sl.c).ownBlock = some y) ((Below.refl _ _).alloc (Nat.le_refl _) _)).trans (tY.mono fun k _ e => .inr e)).trans (tS.mono fun k _ e => .inl e)
section
variable {w0 X Y Z : World} {b : Nat} {c : Rc} {L T : List Tt} {M M' : List Value} {g mb tb : Nat} {cs : Array Value} {t m : Tt} {e : Int}
/-- A box beside the row is filled. -/
theorem RwO.box (h : RwO w0 X b c L T M g) (hmb : BA X mb 31 cs) (hge : w0.heap.size ≤ mb) (hne : (Value.slice c.ty.a c.ty.n c.ty.c).ownBlock ≠ some mb) (t : Tq X Y (fun k => k = mb)) : RwO w0 Y b c L T M g := by
  refine ⟨⟨t.os.trans h.be.os, t.tape.trans h.be.tape, t.output.trans h.be.output, Nat.le_trans h.be.size t.size, fun k hk => (t.blk k (Nat.lt_of_lt_of_le hk h.be.size) (by omega)).trans (h.be.block k hk)⟩, h.li, h.lf, h.bx.tq t (fun e => ?_), h.bb, t.own h.ty (fun q hq e => hne (e ▸ hq)), t.own h.al (fun q hq e => own_boxH h.al hmb (by decide) hq e), t.own h.na (fun q hq e => own_boxH h.na hmb (by decide) hq e), h.ns, ?_, fun x hx => t.own (h.fs x hx) (fun q hq e => own_boxH (h.fs x hx) hmb (by decide) hq e), h.fnd⟩
  · subst e
    have h1 := h.bx
    unfold BA at h1 hmb
    rw [h1] at hmb
    injection hmb with hmb
    injection hmb with _ hmb
    exact absurd hmb (by decide)
  · intro k hk h2 hf
    obtain ⟨m, h3, h4⟩ := h.mp k hk h2 hf
    exact ⟨m, h3, h4.block (t.blk m h4.lt (map_ne h4 ⟨_, _, _, hmb⟩))⟩
/-- Behind a type that is made. -/
structure RdM (w0 X : World) (b : Nat) (c : Rc) (L T : List Tt) (M : List Value) (g mb tb : Nat) (t m : Tt) (e : Int) : Prop where
  ro : RwO w0 X b c L T M g
  bm : BA X mb 31 (ttE m)
  bt : BA X tb 31 (ttE t)
  ne : (Value.slice c.ty.a c.ty.n c.ty.c).ownBlock ≠ some mb
  fo : X.ownsRow w0.heap.size 33 3 (.slice m.sl.a m.sl.n m.sl.c) m.fs.length (flat fdE m.fs)
  md : ∃ m0, madeC L T (alL T) T.length t = some (m0, e) ∧ ct m = ct m0
  mp : e = 0 → m.fm = 10 → ∀ hk : T.length < M.length, ∃ q, M[T.length] = .map (some q) ∧ MapIs X q (seenL (nmL m).reverse)
theorem RdM.plain (h : RwO w0 X b c L T M g) (hmb : BA X mb 31 cs) (htb : BA X tb 31 (ttE t)) (hge : w0.heap.size ≤ mb) (hne : (Value.slice c.ty.a c.ty.n c.ty.c).ownBlock ≠ some mb) (htm : tb ≠ mb) (B : Below X.heap.size X Y) (hz : BA Z mb 31 (ttE m) ∧ Tq Y Z (fun k => k = mb)) (hp : m.sl = ⟨none, 0, 0⟩ ∧ m.fs = [] ∧ m.fm ≠ 10) (hm : madeC L T (alL T) T.length t = some (m, e)) : RdM w0 Z b c L T M g mb tb t m e := by
  refine ⟨(h.call B).box (hmb.below B) hge hne hz.2, hz.1, (htb.below B).tq hz.2 htm, hne, ?_, ⟨m, hm, rfl⟩, fun _ h10 => absurd h10 hp.2.2⟩
  rw [hp.1, hp.2.1]
  exact own_nilH _ _ _ _
theorem RdM.recd (h : RwO w0 X b c L T M g) (hmb : BA X mb 31 cs) (htb : BA X tb 31 (ttE t)) (hge : w0.heap.size ≤ mb) (hne : (Value.slice c.ty.a c.ty.n c.ty.c).ownBlock ≠ some mb) (htm : tb ≠ mb) {sl : Sl} (hn : NmU X Y g T.length (fsN t.fs).reverse (decide ((recP T (alL T) t.bs t.fs sl).2 = 0))) (ho : Y.ownsRow w0.heap.size 33 3 (.slice (recP T (alL T) t.bs t.fs sl).1.sl.a (recP T (alL T) t.bs t.fs sl).1.sl.n (recP T (alL T) t.bs t.fs sl).1.sl.c) (recP T (alL T) t.bs t.fs sl).1.fs.length (flat fdE (recP T (alL T) t.bs t.fs sl).1.fs)) (hz : BA Z mb 31 (ttE (recP T (alL T) t.bs t.fs sl).1) ∧ Tq Y Z (fun k => k = mb)) (hm : madeC L T (alL T) T.length t = some (recP T (alL T) t.bs t.fs ⟨none, 0, 0⟩)) : ∃ M', RdM w0 Z b c L T M' g mb tb t (recP T (alL T) t.bs t.fs sl).1 (recP T (alL T) t.bs t.fs sl).2 := by
  have hgm : mb ≠ g := fun e => own_boxH h.na hmb (by decide) h.ng e.symm
  have hgt : tb ≠ g := fun e => own_boxH h.na htb (by decide) h.ng e.symm
  have hr2 : (recP T (alL T) t.bs t.fs ⟨none, 0, 0⟩).2 = (recP T (alL T) t.bs t.fs sl).2 ∧ ct (recP T (alL T) t.bs t.fs sl).1 = ct (recP T (alL T) t.bs t.fs ⟨none, 0, 0⟩).1 := by
    unfold recP heldP recT
    split
    · split <;> exact ⟨rfl, rfl⟩
    · exact ⟨rfl, rfl⟩
  have hmk : ∃ m0, madeC L T (alL T) T.length t = some (m0, (recP T (alL T) t.bs t.fs sl).2) ∧ ct (recP T (alL T) t.bs t.fs sl).1 = ct m0 := ⟨_, by rw [hm, ← hr2.1], hr2.2⟩
  have hmY := hmb.tq hn.1 hgm
  have htY := htb.tq hn.1 hgt
  obtain ⟨nt, hh⟩ := hn
  rcases hh with ⟨hf, hb⟩ | ⟨q, h1, h2, h3⟩
  · refine ⟨M, ((h.keep nt hb).box hmY hge hne hz.2), hz.1, htY.tq hz.2 htm, hne, hz.2.own ho (fun q hq e => own_boxH ho hmY (by decide) hq e), hmk, fun e0 => ?_⟩
    rw [e0] at hf
    simp at hf
  · refine ⟨M.set T.length (.map (some q)), ((h.put nt h3).box hmY hge hne hz.2), hz.1, htY.tq hz.2 htm, hne, hz.2.own ho (fun q hq e => own_boxH ho hmY (by decide) hq e), hmk, fun e0 h10 hk => ⟨q, by rw [List.getElem_set_self], ?_⟩⟩
    have e1 : nmL (recP T (alL T) t.bs t.fs sl).1 = fsN t.fs := by
      unfold recP heldP recT at h10 ⊢
      split at h10
      · rename_i hr
        rw [if_pos hr]
        split at h10
        · simp [zeroT] at h10
        · rename_i hs
          rw [if_neg hs]
          exact layF_nm T (alL T) t.fs _
      · simp [zeroT] at h10
    rw [e1]
    exact MapS.is (h2.block (hz.2.blk q h2.lt (map_ne h2.is ⟨_, _, _, hmY⟩)))
/-- The type is put behind the row. -/
structure RdQ (w0 X : World) (b : Nat) (c : Rc) (L T : List Tt) (M : List Value) (g mb : Nat) (m : Tt) : Prop where
  be : Below w0.heap.size w0 X
  li : RdV w0 7 c.li L.length (flat ttE L)
  lf : ∀ t ∈ L, RdV w0 3 t.sl t.fs.length (flat fdE t.fs)
  bx : BA X b 56 (rcE c)
  bb : w0.heap.size ≤ b
  bm : BA X mb 31 (ttE m)
  ne : (Value.slice c.ty.a c.ty.n c.ty.c).ownBlock ≠ some mb
  ty : X.ownsRow w0.heap.size 31 7 (.slice c.ty.a c.ty.n c.ty.c) (T.length + 1) (flat ttE (T ++ [m]))
  al : X.ownsRow w0.heap.size 3 1 (.slice c.al.a c.al.n c.al.c) T.length (flat iE (alL T))
  na : X.ownsRow w0.heap.size 76 1 (.slice c.na.a c.na.n c.na.c) (L.length + 1) (flat vE M)
  ns : c.na.a = some ⟨g, 0, none⟩
  mp : ∀ k (hk : k < M.length) (h2 : k < (T ++ [m]).length), (T ++ [m])[k].fm = 10 → ∃ q, M[k] = .map (some q) ∧ MapIs X q (seenL (nmL (T ++ [m])[k]).reverse)
  fs : ∀ t ∈ T ++ [m], X.ownsRow w0.heap.size 33 3 (.slice t.sl.a t.sl.n t.sl.c) t.fs.length (flat fdE t.fs)
theorem ba_ne {ty ty' : TypeId} {cs cs' : Array Value} {p q : Nat} (h : BA X p ty cs) (h' : BA X q ty' cs') (hne : ty ≠ ty') : p ≠ q := by
  rintro rfl
  unfold BA at h h'
  rw [h] at h'
  injection h' with h'
  injection h' with _ h' _
  exact hne h'
theorem below_tq {P : Nat → Prop} (h : Below w0.heap.size w0 X) (t : Tq X Y P) (hP : ∀ j, P j → w0.heap.size ≤ j) : Below w0.heap.size w0 Y := ⟨t.os.trans h.os, t.tape.trans h.tape, t.output.trans h.output, Nat.le_trans h.size t.size, fun k hk => (t.blk k (Nat.lt_of_lt_of_le hk h.size) (fun e => by have := hP k e; omega)).trans (h.block k hk)⟩
theorem RdQ.of {s' : Sl} (h : RdM w0 X b c L T M g mb tb t m e) (he : e = 0) (hb : BA Y b 56 ((rcE c).setIfInBounds 1 (.slice s'.a s'.n s'.c))) (ho : Y.ownsRow w0.heap.size 31 7 (.slice s'.a s'.n s'.c) (T.length + 1) (flat ttE T ++ (ttE m).toList)) (tq : Tq X Y (fun y => y = b ∨ (Value.slice c.ty.a c.ty.n c.ty.c).ownBlock = some y)) (hq : ∀ q, (Value.slice s'.a s'.n s'.c).ownBlock = some q → (Value.slice c.ty.a c.ty.n c.ty.c).ownBlock = some q ∨ X.heap.size ≤ q) : RdQ w0 Y b ⟨c.li, s', c.al, c.na⟩ L T M g mb m := by
  have hr := h.ro
  have bne : mb ≠ b := ba_ne h.bm hr.bx (by decide)
  have hmap : ∀ {q N}, MapIs X q N → MapIs Y q N := fun {q N} hm => hm.block (tq.blk q hm.lt (by
    rintro (e | e)
    · exact map_ne hm ⟨_, _, _, hr.bx⟩ e
    · exact map_ne hm (own_blk hr.ty e) rfl))
  refine ⟨below_tq hr.be tq (by
    rintro j (e | e)
    · have := hr.bb; omega
    · exact own_lo hr.ty j e), hr.li, hr.lf, hb, hr.bb, h.bm.tq tq (by
    rintro (e | e)
    · exact bne e
    · exact h.ne e), ?_, by rw [flat_snoc]; exact ho, tq.own hr.al ?_, tq.own hr.na ?_, hr.ns, ?_, ?_⟩
  · intro e
    rcases hq _ e with e1 | e1
    · exact h.ne e1
    · have := h.bm.lt; omega
  · rintro q hq (e | e)
    · exact own_boxH hr.al hr.bx (by decide) hq e
    · exact own_two hr.al hr.ty (by decide) hq e
  · rintro q hq (e | e)
    · exact own_boxH hr.na hr.bx (by decide) hq e
    · exact own_two hr.na hr.ty (by decide) hq e
  · intro k hk h2 hf
    by_cases hkT : k < T.length
    · rw [List.getElem_append_left hkT] at hf ⊢
      obtain ⟨q, h3, h4⟩ := hr.mp k hk hkT hf
      exact ⟨q, h3, hmap h4⟩
    · obtain rfl : k = T.length := by rw [List.length_append, List.length_singleton] at h2; omega
      have e1 : (T ++ [m])[T.length]'h2 = m := by simp
      rw [e1] at hf ⊢
      obtain ⟨q, h3, h4⟩ := h.mp he hf hk
      exact ⟨q, h3, hmap h4⟩
  · intro x hx
    have hf : X.ownsRow w0.heap.size 33 3 (.slice x.sl.a x.sl.n x.sl.c) x.fs.length (flat fdE x.fs) := by
      rcases List.mem_append.1 hx with hx | hx
      · exact hr.fs x hx
      · rw [List.mem_singleton.1 hx]; exact h.fo
    refine tq.own hf ?_
    rintro q hq (e | e)
    · exact own_boxH hf hr.bx (by decide) hq e
    · exact own_two hf hr.ty (by decide) hq e
theorem RdQ.call (h : RdQ w0 X b c L T M g mb m) (hb : Below X.heap.size X Y) : RdQ w0 Y b c L T M g mb m :=
  ⟨h.be.trans (hb.mono h.be.size), h.li, h.lf, h.bx.below hb, h.bb, h.bm.below hb, h.ne, own_belowH h.ty hb, own_belowH h.al hb, own_belowH h.na hb, h.ns, fun k hk h2 hf => by obtain ⟨q, h3, h4⟩ := h.mp k hk h2 hf; exact ⟨q, h3, h4.call hb⟩, fun x hx => own_belowH (h.fs x hx) hb⟩
/-- Its places' step is put behind the others. -/
theorem RdQ.done {s' : Sl} (h : RdQ w0 X b c L T M g mb m) (hf : Fnd L (T ++ [m])) (hb : BA Y b 56 ((rcE c).setIfInBounds 2 (.slice s'.a s'.n s'.c))) (ho : Y.ownsRow w0.heap.size 3 1 (.slice s'.a s'.n s'.c) (T.length + 1) (flat iE (alL T) ++ (iE (alP (alL T) m)).toList)) (tq : Tq X Y (fun y => y = b ∨ (Value.slice c.al.a c.al.n c.al.c).ownBlock = some y)) : RwO w0 Y b ⟨c.li, c.ty, s', c.na⟩ L (T ++ [m]) M g ∧ BA Y mb 31 (ttE m) := by
  have bne : mb ≠ b := ba_ne h.bm h.bx (by decide)
  refine ⟨⟨below_tq h.be tq (by
    rintro j (e | e)
    · have := h.bb; omega
    · exact own_lo h.al j e), h.li, h.lf, hb, h.bb, ?_, ?_, tq.own h.na ?_, h.ns, ?_, ?_, hf⟩, h.bm.tq tq (by
    rintro (e | e)
    · exact bne e
    · exact own_boxH h.al h.bm (by decide) e rfl)⟩
  · rw [List.length_append, List.length_singleton]
    refine tq.own h.ty ?_
    rintro q hq (e | e)
    · exact own_boxH h.ty h.bx (by decide) hq e
    · exact own_two h.ty h.al (by decide) hq e
  · rw [List.length_append, List.length_singleton, alL_snoc, flat_snoc]
    exact ho
  · rintro q hq (e | e)
    · exact own_boxH h.na h.bx (by decide) hq e
    · exact own_two h.na h.al (by decide) hq e
  · intro k hk h2 hf
    obtain ⟨q, h3, h4⟩ := h.mp k hk h2 hf
    refine ⟨q, h3, h4.block (tq.blk q h4.lt ?_)⟩
    rintro (e | e)
    · exact map_ne h4 ⟨_, _, _, h.bx⟩ e
    · exact map_ne h4 (own_blk h.al e) rfl
  · intro x hx
    refine tq.own (h.fs x hx) ?_
    rintro q hq (e | e)
    · exact own_boxH (h.fs x hx) h.bx (by decide) hq e
    · exact own_two (h.fs x hx) h.al (by decide) hq e
end
theorem sameB_ct' {a b t : Tt} (h : ct a = ct b) : sameB a t = sameB b t := by
  have e : ∀ x : Tt, sameB (ct x) t = sameB x t := fun x => rfl
  rw [← e a, h, e]
theorem inv_ct {T T' : List Tt} (h : Inv T) (e : T.map ct = T'.map ct) : Inv T' := by
  have hm : ∀ t ∈ T', ∃ u ∈ T, ct u = ct t := fun t ht => by
    have : ct t ∈ T.map ct := by rw [e]; exact List.mem_map.2 ⟨t, ht, rfl⟩
    obtain ⟨u, hu, hc⟩ := List.mem_map.1 this
    exact ⟨u, hu, hc⟩
  refine ⟨fun t ht => ?_, fun t ht => ?_, ?_, ?_⟩
  · obtain ⟨u, hu, hc⟩ := hm t ht
    have h1 := h.sz u hu
    have h2 : (ct u).sz = (ct t).sz := by rw [hc]
    rw [show u.sz = t.sz from h2] at h1
    exact h1
  · obtain ⟨u, hu, hc⟩ := hm t ht
    have h1 := h.lv u hu
    have h2 : (ct u).lv = (ct t).lv := by rw [hc]
    rw [show u.lv = t.lv from h2] at h1
    exact h1
  · rw [← alL_ct, ← e, alL_ct]
    exact h.al
  · have k1 : ∀ i f, isB T' i f = isB T i f := fun i f => by rw [← isB_ct, ← e, isB_ct]
    have k2 : ∀ i, (tyD T' i).bs = (tyD T i).bs := fun i => by
      have h1 := tyD_ct T' i
      rw [← e, tyD_ct] at h1
      have h2 : (ct (tyD T i)).bs = (ct (tyD T' i)).bs := by rw [h1]
      exact h2.symm
    intro i hi
    rw [k1] at hi
    rw [k2, k1]
    exact h.gd i hi
theorem made_el {L T : List Tt} {t m : Tt} (hm : madeC L T (alL T) T.length t = some (m, 0)) (h8 : m.fm = 8) : 0 ≤ m.el ∧ m.el < ((alL T).length : Int) := by
  rw [alL_len]
  unfold madeC at hm
  split at hm
  · injection hm with hm
    injection hm with hm _
    subst hm
    have : (T.length : Int) = 8 := h8
    omega
  · split at hm
    · injection hm with hm
      unfold arrP at hm
      split at hm
      · injection hm with _ hm; omega
      · rename_i hn
        obtain ⟨rfl, _⟩ := heldP_ok hm
        have ht : thB T (alL T) t.el = true := by
          cases h : thB T (alL T) t.el
          · exact absurd (.inr (.inr h)) hn
          · rfl
        unfold thB hasB at ht
        simp only [Bool.and_eq_true, decide_eq_true_eq] at ht
        exact ht.1
    · split at hm
      · injection hm with hm
        unfold openP at hm
        split at hm
        · injection hm with hm _
          subst hm
          simp at h8
        · injection hm with _ hm; omega
      · split at hm
        · injection hm with hm
          unfold recP at hm
          split at hm
          · obtain ⟨rfl, _⟩ := heldP_ok hm
            simp [recT] at h8
          · injection hm with _ hm; omega
        · split at hm
          · injection hm with hm
            unfold ptrP at hm
            split at hm
            · injection hm with hm _
              subst hm
              simp [ptrT] at h8
            · injection hm with _ hm; omega
          · cases hm
/-- The type that was made is what stands there: the row is longer by it. -/
theorem fnd_more {L T : List Tt} (h : Fnd L T) (hk : T.length < L.length) {m m0 : Tt} (hm : madeC L T (alL T) T.length L[T.length] = some (m0, 0)) (hc : ct m = ct m0) (hs : sameB m L[T.length] = true) : Fnd L (T ++ [m]) := by
  refine h.step hk m m0 hm hc (by rw [← sameB_ct' hc]; exact hs) (inv_ct (made_inv h.inv hm) ?_)
  rw [List.map_append, List.map_append, List.map_singleton, List.map_singleton, hc]
theorem sameB_ct {a b t : Tt} (h : ct a = ct b) : sameB a t = sameB b t := by
  have e : ∀ x : Tt, sameB (ct x) t = sameB x t := fun x => rfl
  rw [← e a, h, e]
end Go.Proofs.YtgkfnfilomjphaaDoor
