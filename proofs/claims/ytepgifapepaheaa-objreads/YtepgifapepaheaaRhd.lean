/-
  Layer 7: whether an object's head is right: its name, what it imports, how long its code is.
-/
import Derived.Test.YtepgifapepaheaaRea
namespace Go.Proofs.Ytepgifapepaheaa
set_option linter.unusedVariables false
set_option linter.unusedSimpArgs false
open Go.ChangeShapes Go.WideShapes Go.ChangeAt Go.RowKit

section
variable (c : Oc)
theorem Oc.at0 : c.cells[0]? = some (.string c.nm) := rfl
theorem Oc.at1 : c.cells[1]? = some (.int .u32 c.key) := rfl
theorem Oc.at2 : c.cells[2]? = some (.slice c.im.a c.im.n c.im.c) := rfl
theorem Oc.at3 : c.cells[3]? = some (.slice c.co.a c.co.n c.co.c) := rfl
theorem Oc.at4 : c.cells[4]? = some (.slice c.pr.a c.pr.n c.pr.c) := rfl
theorem Oc.at5 : c.cells[5]? = some (.slice c.na.a c.na.n c.na.c) := rfl
theorem Oc.at6 : c.cells[6]? = some (.slice c.ex.a c.ex.n c.ex.c) := rfl
theorem Oc.at7 : c.cells[7]? = some (.int .i64 c.ini) := rfl
theorem Oc.at8 : c.cells[8]? = some (.slice c.va.a c.va.n c.va.c) := rfl
theorem Oc.at9 : c.cells[9]? = some (.slice c.sh.a c.sh.n c.sh.c) := rfl
theorem Oc.at10 : c.cells[10]? = some (.slice c.st.a c.st.n c.st.c) := rfl
theorem Oc.at11 : c.cells[11]? = some (.slice c.ds.a c.ds.n c.ds.c) := rfl
theorem Oc.at12 : c.cells[12]? = some (.slice c.fx.a c.fx.n c.fx.c) := rfl
end
/-- A row that is read: its length, and what stands at each place. -/
structure RdV (X : World) (k : Nat) (s : Sl) (n : Nat) (cs : List Value) : Prop where
  len : s.n = n
  all : cs.length = n * k
  most : n ≤ 140737488355328
  at_ : n = 0 ∨ ∃ g off, s.a = some ⟨g, off, none⟩ ∧ g < X.heap.size ∧ ∀ j u, cs[j]? = some u → X.cell? ⟨g, off + j, none⟩ = some u
theorem RdV.below {X Y : World} {k n : Nat} {s : Sl} {cs : List Value} (h : RdV X k s n cs) (hb : Below X.heap.size X Y) : RdV Y k s n cs :=
  ⟨h.len, h.all, h.most, h.at_.imp id fun ⟨g, off, h1, h2, h3⟩ => ⟨g, off, h1, Nat.lt_of_lt_of_le h2 hb.size, fun j u hu => (hb.cell (p := ⟨g, off + j, none⟩) h2).trans (h3 j u hu)⟩⟩
theorem RdV.tq {X Y : World} {P : Nat → Prop} {k n : Nat} {s : Sl} {cs : List Value} (h : RdV X k s n cs) (t : Tq X Y P) (hp : ∀ ad, s.a = some ad → ¬ P ad.block) : RdV Y k s n cs :=
  ⟨h.len, h.all, h.most, h.at_.imp id fun ⟨g, off, h1, h2, h3⟩ => ⟨g, off, h1, Nat.lt_of_lt_of_le h2 t.size, fun j u hu => (World.cell?_of_block (a := ⟨g, off + j, none⟩) (t.blk g h2 (hp _ h1))).trans (h3 j u hu)⟩⟩
/-- The names that were there, behind so many imports. -/
def afterN (N : List Bs) (l : List ByteArray) (i : Nat) : List Bs := (l.take i).foldl addN N
theorem afterN_succ (N : List Bs) (l : List ByteArray) (i : Nat) (h : i < l.length) : afterN N l (i + 1) = addN (afterN N l i) l[i] := by
  unfold afterN
  rw [List.take_succ_eq_append_getElem h, List.foldl_append]; rfl
theorem addN_len (N : List Bs) (s : ByteArray) : (addN N s).length ≤ N.length + 1 := by
  unfold addN; split
  · simp
  · omega
theorem afterN_len (N : List Bs) (l : List ByteArray) : ∀ i, (afterN N l i).length ≤ N.length + i := by
  intro i
  induction i with
  | zero => simp [afterN]
  | succ i ih =>
    by_cases h : i < l.length
    · rw [afterN_succ N l i h]
      have := addN_len (afterN N l i) l[i]; omega
    · have : afterN N l (i + 1) = afterN N l i := by unfold afterN; rw [List.take_of_length_le (by omega), List.take_of_length_le (by omega)]
      rw [this]; omega
set_option maxHeartbeats 2000000 in
/-- A name that is asked for, through the function that is kept in a cell. -/
theorem cl_head (w : World) (p k m : Nat) (N : List Bs) (h : NmAt w k m N) (hp : w.cell? ⟨p, 0, none⟩ = some (.func (.func 76) #[] #[.pointer (some ⟨k, 0, none⟩)])) (hpl : p < w.heap.size) (hN : N.length ≤ 500) (i : Int) (x : ByteArray × Int) (hs : x.1.size ≤ 140737488355328) :
    Calls Try.prog 57 #[.int .i64 i, .agg (iEnc x), .pointer (some ⟨p, 0, none⟩)] w fun e w' => e = .returned (.bool (freshB N x.1)) ∧ NmAt w' k m (addN N x.1) ∧ Tq w w' (fun y => y = m) := by
  unfold iEnc
  have F : Hid (∀ X, Below w.heap.size w X → Calls Try.prog 76 #[.string x.1, .pointer (some ⟨k, 0, none⟩)] X fun e w' => e = .returned (.bool (freshB N x.1)) ∧ NmAt w' k m (addN N x.1) ∧ Tq w w' (fun y => y = m)) := fun X hX => (fresh_any X k m N (h.below hX) x.1 hs hN).mono fun e Y hh => ⟨hh.1, hh.2.1, (Tq.below hX).trans hh.2.2⟩
  have c2 : (w.alloc (.cells #[.string x.1, .int .u32 x.2] 59)).cell? ⟨p, 0, none⟩ = some (.func (.func 76) #[] #[.pointer (some ⟨k, 0, none⟩)]) := (World.cell?_of_block (a := ⟨p, 0, none⟩) (Below.heap_alloc _ _ _ hpl)).trans hp
  clear h hp
  go_enter Try.func57, Try.ntmps57
  go_wp2_with (go_at_call 76; refine (F.out _ (by go_grown)).mono ?_; rintro e w1 ⟨rfl, hr⟩)
  go_ret
  exact ⟨rfl, hr⟩
attribute [local go_sem] Oc.at0 Oc.at1 Oc.at2 Oc.at3 Oc.at4 Oc.at5 Oc.at6 Oc.at7 Oc.at8 Oc.at9 Oc.at10 Oc.at11 Oc.at12
/-- An object that is read. -/
structure ObR (X : World) (c : Oc) (o : Ob) : Prop where
  nm : c.nm = o.name
  key : c.key = o.key
  ini : c.ini = o.ini
  im : RdV X 2 c.im o.imps.length (flat iEnc o.imps)
  co : RdV X 1 c.co o.code.length (o.code.map (Value.int .u32))
  pr : RdV X 1 c.pr o.procs.length (o.procs.map (Value.int .i64))
  na : RdV X 1 c.na o.names.length (o.names.map Value.string)
  ex : RdV X 1 c.ex o.exps.length (o.exps.map Value.bool)
  va : RdV X 1 c.va o.vars.length (o.vars.map (Value.int .i64))
  sh : RdV X 1 c.sh o.shown.length (o.shown.map (Value.int .i64))
  st : RdV X 1 c.st o.strs.length (o.strs.map Value.string)
  ds : ∃ l, l.map (·.1) = o.descs ∧ RdV X 3 c.ds l.length (flat dEnc l) ∧ ∀ p ∈ l, RdV X 1 p.2 p.1.2.2.length (p.1.2.2.map (Value.int .i64))
  fx : RdV X 4 c.fx o.fixes.length (flat xEnc o.fixes)
  sz : o.name.size ≤ 140737488355328 ∧ (∀ x ∈ o.imps, x.1.size ≤ 140737488355328) ∧ (∀ x ∈ o.names, x.size ≤ 140737488355328) ∧ (∀ x ∈ o.strs, x.size ≤ 140737488355328)
theorem ObR.below {X Y : World} {c : Oc} {o : Ob} (h : ObR X c o) (hb : Below X.heap.size X Y) : ObR Y c o := by
  obtain ⟨l, h1, h2, h3⟩ := h.ds
  exact ⟨h.nm, h.key, h.ini, h.im.below hb, h.co.below hb, h.pr.below hb, h.na.below hb, h.ex.below hb, h.va.below hb, h.sh.below hb, h.st.below hb, ⟨l, h1, h2.below hb, fun p hp => (h3 p hp).below hb⟩, h.fx.below hb, h.sz⟩
theorem flat_at {α : Type} (enc : α → Array Value) (k : Nat) (he : ∀ x, (enc x).size = k) : ∀ (l : List α) (j : Nat) (hj : j < l.length) (m : Nat), m < k → (flat enc l)[j * k + m]? = (enc l[j])[m]?
  | x :: r, 0, hj, m, hm => by
    have : flat enc (x :: r) = (enc x).toList ++ flat enc r := rfl
    rw [this, Nat.zero_mul, Nat.zero_add, List.getElem?_append_left (by rw [Array.length_toList, he]; exact hm)]
    simp
  | x :: r, j + 1, hj, m, hm => by
    have : flat enc (x :: r) = (enc x).toList ++ flat enc r := rfl
    rw [this, List.getElem?_append_right (by rw [Array.length_toList, he, Nat.succ_mul]; omega)]
    rw [show (j + 1) * k + m - (enc x).toList.length = j * k + m by rw [Array.length_toList, he, Nat.succ_mul]; omega]
    exact flat_at enc k he r j (by simpa using hj) m hm
theorem RdV.many {X : World} {α : Type} {enc : α → Array Value} {k : Nat} {s : Sl} {l : List α} (h : RdV X k s l.length (flat enc l)) (he : ∀ x, (enc x).size = k) (x : Nat → α) (hx : ∀ j (hj : j < l.length), x j = l[j]) : l.length = 0 ∨ ∃ g off, s.a = some ⟨g, off, none⟩ ∧ g < X.heap.size ∧ ∀ j, j < l.length → ∀ m, m < k → X.cell? ⟨g, off + (j * k + m), none⟩ = (enc (x j))[m]? := by
  rcases h.at_ with h0 | ⟨g, off, h1, h2, h3⟩
  · exact .inl h0
  · refine .inr ⟨g, off, h1, h2, fun j hj m hm => ?_⟩
    have e := flat_at enc k he l j hj m hm
    rw [hx j hj]
    have hs : (enc l[j])[m]? = some ((enc l[j])[m]'(by rw [he]; exact hm)) := Array.getElem?_eq_getElem _
    rw [hs] at e ⊢
    exact h3 _ _ e
def headB (o : Ob) : Bool := freshB [] o.name && eachB o.imps.length 16 (fun i => freshB (afterN (addN [] o.name) (o.imps.map (·.1)) i) (o.imps.getD i (⟨#[]⟩, 0)).1) && decide (1 ≤ (o.code.length : Int)) && decide ((o.code.length : Int) ≤ 65536)
/-- What stands while imports are looked at. -/
structure HI (w X : World) (c : Oc) (o : Ob) (p k m i : Nat) : Prop where
  nm : NmAt X k m (afterN (addN [] o.name) (o.imps.map (·.1)) i)
  cl : X.cell? ⟨p, 0, none⟩ = some (.func (.func 76) #[] #[.pointer (some ⟨k, 0, none⟩)])
  pl : p < X.heap.size
  im : RdV X 2 c.im o.imps.length (flat iEnc o.imps)
  bx : X.cell? ⟨w.heap.size, 3, none⟩ = some (.slice c.co.a c.co.n c.co.c) ∧ w.heap.size < X.heap.size ∧ w.heap.size < m ∧ p ≠ m
  lo : ∀ ad, c.im.a = some ad → o.imps.length ≠ 0 → ad.block < w.heap.size
  be : Below w.heap.size w X
theorem HI.below {w X Y : World} {c : Oc} {o : Ob} {p k m i : Nat} (h : HI w X c o p k m i) (hb : Below X.heap.size X Y) : HI w Y c o p k m i :=
  ⟨h.nm.below hb, (hb.cell (p := ⟨p, 0, none⟩) h.pl).trans h.cl, Nat.lt_of_lt_of_le h.pl hb.size, h.im.below hb, ⟨(hb.cell (p := ⟨w.heap.size, 3, none⟩) h.bx.2.1).trans h.bx.1, Nat.lt_of_lt_of_le h.bx.2.1 hb.size, h.bx.2.2⟩, h.lo, h.be.trans (hb.mono (Nat.le_of_lt h.bx.2.1))⟩
theorem Below.of_tq {w X Y : World} {P : Nat → Prop} (h : Below w.heap.size w X) (t : Tq X Y P) (hp : ∀ k, k < w.heap.size → ¬ P k) : Below w.heap.size w Y := ⟨t.os.trans h.os, t.tape.trans h.tape, t.output.trans h.output, Nat.le_trans h.size t.size, fun k hk => (t.blk k (Nat.lt_of_lt_of_le hk h.size) (hp k hk)).trans (h.block k hk)⟩
theorem HI.tq {w X Y : World} {c : Oc} {o : Ob} {p k m i : Nat} (h : HI w X c o p k m i) (t : Tq X Y (fun y => y = m)) (hn : NmAt Y k m (afterN (addN [] o.name) (o.imps.map (·.1)) (i + 1))) : HI w Y c o p k m (i + 1) := by
  refine ⟨hn, (World.cell?_of_block (a := ⟨p, 0, none⟩) (t.blk p h.pl h.bx.2.2.2)).trans h.cl, Nat.lt_of_lt_of_le h.pl t.size, ?_, ⟨(World.cell?_of_block (a := ⟨w.heap.size, 3, none⟩) (t.blk w.heap.size h.bx.2.1 (Nat.ne_of_lt h.bx.2.2.1))).trans h.bx.1, Nat.lt_of_lt_of_le h.bx.2.1 t.size, h.bx.2.2⟩, h.lo, Below.of_tq h.be t fun k hk => by have := h.bx.2.2.1; omega⟩
  rcases h.im.at_ with h0 | _
  · exact ⟨h.im.len, h.im.all, h.im.most, .inl h0⟩
  · by_cases h0 : o.imps.length = 0
    · exact ⟨h.im.len, h.im.all, h.im.most, .inl h0⟩
    · exact h.im.tq t fun ad he => by have := h.lo ad he h0; have := h.bx.2.2.1; omega
theorem imps_each (w X : World) (c : Oc) (o : Ob) (p k m : Nat) (h : HI w X c o p k m 0) (hs : ∀ x ∈ o.imps, x.1.size ≤ 140737488355328) :
    Calls Try.prog 56 #[.slice c.im.a c.im.n c.im.c, .int .i64 16, .func (.func 57) #[] #[.pointer (some ⟨p, 0, none⟩)]] X fun e w' => e = .returned (.bool (eachB o.imps.length 16 (fun i => freshB (afterN (addN [] o.name) (o.imps.map (·.1)) i) (o.imps.getD i (⟨#[]⟩, 0)).1))) ∧ (w'.cell? ⟨w.heap.size, 3, none⟩ = some (.slice c.co.a c.co.n c.co.c) ∧ Below w.heap.size w w') := by
  have hn := h.im.len
  have hmost := h.im.most
  have := each_imp (fun i X => HI w X c o p k m i) (fun X => X.cell? ⟨w.heap.size, 3, none⟩ = some (.slice c.co.a c.co.n c.co.c) ∧ Below w.heap.size w X)
    (fun i => freshB (afterN (addN [] o.name) (o.imps.map (·.1)) i) (o.imps.getD i (⟨#[]⟩, 0)).1) (fun i => o.imps.getD i (⟨#[]⟩, 0)) c.im.a o.imps.length c.im.c 16 p X h (fun i A B hA hb => hA.below hb)
    (fun i A hA => hA.im.many (fun x => rfl) _ (fun j hj => by rw [List.getD_eq_getElem?_getD, List.getElem?_eq_getElem hj]; rfl)) (fun i A hA => ⟨hA.bx.1, hA.be⟩) hmost
    (fun hm i hi A hA => by
      have hx : o.imps.getD i (⟨#[]⟩, 0) = o.imps[i] := by rw [List.getD_eq_getElem?_getD, List.getElem?_eq_getElem hi]; rfl
      have hlen := afterN_len (addN [] o.name) (o.imps.map (·.1)) i
      have hlen2 := addN_len [] o.name
      have hc := cl_head A p k m _ hA.nm hA.cl hA.pl (by simp at hlen2; omega) i (o.imps.getD i (⟨#[]⟩, 0)) (by rw [hx]; exact hs _ (List.getElem_mem hi))
      refine hc.mono fun e Y hh => ⟨hh.1, fun hp => hA.tq hh.2.2 ?_, fun hp => ?_⟩
      · have := hh.2.1
        rw [afterN_succ _ _ i (by simpa using hi), List.getElem_map]
        rw [hx] at this
        exact this
      · exact ⟨(World.cell?_of_block (a := ⟨w.heap.size, 3, none⟩) (hh.2.2.blk w.heap.size hA.bx.2.1 (Nat.ne_of_lt hA.bx.2.2.1))).trans hA.bx.1, Below.of_tq hA.be hh.2.2 fun k hk => by have := hA.bx.2.2.1; omega⟩)
  rw [hn]
  exact this
theorem store_fn (X : World) (fn : Fn) (b d : Array Value) (t : TypeId) : ∃ Y, (store ⟨X.heap.size, 0, none⟩ (.func fn b d)).run Try.prog (X.alloc (.cells #[.nilFunc] t)) = .ok () Y ∧ Y.heap[X.heap.size]? = some (.cells #[.func fn b d] t (0, 0)) ∧ Below X.heap.size X Y := by
  have hb := blk_new X (.cells #[.nilFunc] t)
  refine ⟨(X.alloc (.cells #[.nilFunc] t)).setCell ⟨X.heap.size, 0, none⟩ (.func fn b d), ?_, Go.Joins.block_setCell hb _, by go_grown⟩
  rw [run_store _ _ _ _ _ rfl, blk_cell hb 0, blk_fz hb 0]; rfl
/-- The object's cells in a box, behind what leaves them. -/
theorem box_at {w X : World} {c : Oc} (h : Below (w.heap.size + 1) (w.alloc (.cells c.cells 33)) X) : OAt X w.heap.size c := (h.block w.heap.size (by omega)).trans (blk_new w _)
set_option maxHeartbeats 4000000 in
set_option maxRecDepth 20000 in
theorem headRight_any (w : World) (c : Oc) (o : Ob) (h : ObR w c o) : Calls Try.prog 43 #[.agg c.cells] w fun e w' => e = .returned (.bool (headB o)) ∧ Below w.heap.size w w' := by
  have NN : Hid (∀ X, Calls Try.prog 55 #[] X _) := fun X => newNames_any X
  have FR : Hid (∀ X k m, NmAt X k m [] → Calls Try.prog 76 #[.string c.nm, .pointer (some ⟨k, 0, none⟩)] X fun e w' => e = .returned (.bool (freshB [] o.name)) ∧ NmAt w' k m (addN [] o.name) ∧ Tq X w' (fun x => x = m)) := fun X k m hX => by rw [h.nm]; exact fresh_any X k m [] hX o.name h.sz.1 (by simp)
  have EA : Hid (∀ X p k m, HI w X c o p k m 0 → Calls Try.prog 56 #[.slice c.im.a c.im.n c.im.c, .int .i64 16, .func (.func 57) #[] #[.pointer (some ⟨p, 0, none⟩)]] X _) := fun X p k m hX => imps_each w X c o p k m hX h.sz.2.1
  have hco := h.co.len
  have HO : Hid (ObR w c o) := h
  unfold headB
  generalize eachB o.imps.length 16 (fun i => freshB (afterN (addN [] o.name) (o.imps.map (·.1)) i) (o.imps.getD i (⟨#[]⟩, 0)).1) = b2 at *
  generalize hb1 : freshB [] o.name = b1 at *
  rw [← hco]
  clear h hco
  have ARM : Hid (∀ w1 k m, NmAt w1 k m [] → (w.alloc (.cells c.cells 33)).heap.size ≤ k → (w.alloc (.cells c.cells 33)).heap.size ≤ m → Below (w.alloc (.cells c.cells 33)).heap.size (w.alloc (.cells c.cells 33)) w1 → ∃ w2, (store ⟨w1.heap.size, 0, none⟩ (.func (.func 76) #[] #[.pointer (some ⟨k, 0, none⟩)])).run Try.prog (w1.alloc (.cells #[.nilFunc] 88)) = .ok () w2 ∧ NmAt w2 k m [] ∧ OAt w2 w.heap.size c ∧ w2.cell? ⟨w1.heap.size, 0, none⟩ = some (.func (.func 76) #[] #[.pointer (some ⟨k, 0, none⟩)]) ∧ w1.heap.size < w2.heap.size ∧ Below w.heap.size w w2 ∧ w.heap.size < m ∧ m < w1.heap.size ∧ w.heap.size < w1.heap.size) := fun w1 k m hn hk hm hb => by
    obtain ⟨w2, h1, h2, h3⟩ := store_fn w1 (.func 76) #[] #[.pointer (some ⟨k, 0, none⟩)] 88
    have hs := hb.size
    simp at hk hm hs
    have hbx : Below (w.heap.size + 1) (w.alloc (.cells c.cells 33)) w1 := by simpa using hb
    have hb2 : Below (w.heap.size + 1) (w.alloc (.cells c.cells 33)) w2 := hbx.trans (h3.mono (by omega))
    exact ⟨w2, h1, hn.below h3, box_at hb2, blk_cell h2 0, (Array.getElem?_eq_some_iff.1 h2).1, ((Below.refl w.heap.size w).alloc (Nat.le_refl _) _).trans (hb2.mono (by omega)), by omega, hn.mp.lt, by omega⟩
  have BX : Hid (∀ X Y m, OAt X w.heap.size c → Tq X Y (fun x => x = m) → w.heap.size < m → OAt Y w.heap.size c) := fun X Y m hX t hm => hX.tq t (by omega)
  cases b1
  · simp only [Bool.false_and]
    go_enter Try.func43, Try.ntmps43
    go_wp2_with (first
      | (go_at_call 76; refine (FR.out _ k m n2).mono ?_; rintro e w3 ⟨rfl, hn3, ht3⟩)
      | (go_at_call 55; refine (NN.out _).mono ?_; rintro e w1 ⟨k, m, rfl, hn, hk, hm, hb1x⟩; obtain ⟨w2, hst, n2, o2, p2, l2, be2, m2, m3, z2⟩ := ARM.out w1 k m hn hk hm hb1x; have q0 : w2.cell? ⟨w.heap.size, 0, none⟩ = some (.string c.nm) := blk_cell o2 0; clear hn hk hm hb1x))
    go_ret
    exact ⟨rfl, Below.of_tq be2 ht3 fun x hx => by omega⟩
  · have HHI : Hid (∀ w2 w3 p k m, OAt w2 w.heap.size c → w2.cell? ⟨p, 0, none⟩ = some (.func (.func 76) #[] #[.pointer (some ⟨k, 0, none⟩)]) → p < w2.heap.size → Below w.heap.size w w2 → w.heap.size < m → p ≠ m → NmAt w3 k m (addN [] o.name) → Tq w2 w3 (fun x => x = m) → HI w w3 c o p k m 0) := fun w2 w3 p k m h1 h2 h3 h4 h5 h6 h7 h8 => by
      have h9 := h1.tq h8 (by omega)
      have hbe := Below.of_tq h4 h8 fun x hx => by omega
      have hlo : ∀ ad, c.im.a = some ad → o.imps.length ≠ 0 → ad.block < w.heap.size := fun ad he h0 => by
        rcases HO.out.im.at_ with e | ⟨g, off, e1, e2, _⟩
        · exact absurd e h0
        · rw [e1] at he; injection he with he; subst he; exact e2
      exact ⟨h7, (World.cell?_of_block (a := ⟨p, 0, none⟩) (h8.blk p h3 h6)).trans h2, Nat.lt_of_lt_of_le h3 h8.size, HO.out.im.below hbe, ⟨blk_cell h9 3, h9.lt, h5, h6⟩, hlo, hbe⟩
    cases b2
    · simp only [Bool.true_and, Bool.false_and]
      go_enter Try.func43, Try.ntmps43
      go_wp2_with (first
        | (go_at_call 56; refine (EA.out _ _ k m hh).mono ?_; rintro e w4 ⟨rfl, q4, be4⟩)
        | (go_at_call 76; refine (FR.out _ k m n2).mono ?_; rintro e w3 ⟨rfl, hn3, ht3⟩; have hh := HHI.out w2 w3 w1.heap.size k m o2 p2 l2 be2 m2 (by omega) hn3 ht3; have o3 := BX.out w2 w3 m o2 ht3 m2; have q2 : w3.cell? ⟨w.heap.size, 2, none⟩ = some (.slice c.im.a c.im.n c.im.c) := blk_cell o3 2; clear o3 ht3 hn3)
        | (go_at_call 55; refine (NN.out _).mono ?_; rintro e w1 ⟨k, m, rfl, hn, hk, hm, hb1x⟩; obtain ⟨w2, hst, n2, o2, p2, l2, be2, m2, m3, z2⟩ := ARM.out w1 k m hn hk hm hb1x; have q0 : w2.cell? ⟨w.heap.size, 0, none⟩ = some (.string c.nm) := blk_cell o2 0; clear hn hk hm hb1x))
      go_ret
      exact ⟨rfl, be4⟩
    · simp only [Bool.true_and]
      cases d1 : decide (1 ≤ (c.co.n : Int)) <;> cases d2 : decide ((c.co.n : Int) ≤ 65536)
      all_goals
        go_enter Try.func43, Try.ntmps43
        go_wp2_with (first
          | (go_at_call 56; refine (EA.out _ _ k m hh).mono ?_; rintro e w4 ⟨rfl, q4, be4⟩)
          | (go_at_call 76; refine (FR.out _ k m n2).mono ?_; rintro e w3 ⟨rfl, hn3, ht3⟩; have hh := HHI.out w2 w3 w1.heap.size k m o2 p2 l2 be2 m2 (by omega) hn3 ht3; have o3 := BX.out w2 w3 m o2 ht3 m2; have q2 : w3.cell? ⟨w.heap.size, 2, none⟩ = some (.slice c.im.a c.im.n c.im.c) := blk_cell o3 2; clear o3 ht3 hn3)
          | (go_at_call 55; refine (NN.out _).mono ?_; rintro e w1 ⟨k, m, rfl, hn, hk, hm, hb1x⟩; obtain ⟨w2, hst, n2, o2, p2, l2, be2, m2, m3, z2⟩ := ARM.out w1 k m hn hk hm hb1x; have q0 : w2.cell? ⟨w.heap.size, 0, none⟩ = some (.string c.nm) := blk_cell o2 0; clear hn hk hm hb1x))
        go_ret
        exact ⟨rfl, be4⟩
end Go.Proofs.Ytepgifapepaheaa
