/-
  Layer 17: read: the book of what a disk says.
-/
import Derived.Test.YtmjflbleobmjdaaGreatDoorOnl
namespace Go.Proofs.YtmjflbleobmjdaaGreatDoor
set_option linter.unusedVariables false
set_option linter.unusedSimpArgs false
open Go.ChangeShapes Go.WideShapes Go.ChangeAt Go.RowKit Go.Shelf
attribute [local go_sem ↓] loadSec_seal storeSec_seal eqlSec_seal zeroSec
attribute [local go_sem] loadSec_run storeSec_run rowAt_at rowAt_old rowAt_drew rowAt_drewN roomSec_new roomAt_old roomAt_drew roomAt_drewN putSec_new putRow_past rowSec_put size_put putRow_drew putRow_drewN alloc_drewN setCell_drewN sec_size

set_option linter.unusedVariables false
attribute [local go_sem] Oper.semAt_some

theorem fold_app (n : Nat) (S : Nat → Nat → Int) : ∀ (l r : List (Option En)) (fs : List Fi) (u : Nat → Nat), foldP n S fs u (l ++ r) = match foldP n S fs u l with | none => none | some q => foldP n S q.1 q.2 r
  | [], r, _, _ => rfl
  | none :: l, r, _, _ => rfl
  | some e :: l, r, fs, u => by
    rw [List.cons_append, foldP, foldP]
    cases addF n S fs u e with
    | none => rfl
    | some q => exact fold_app n S l r _ _
theorem fold_pre {n : Nat} {S : Nat → Nat → Int} {pre all : List (Option En)} {fs : List Fi} {u : Nat → Nat} (h : pre <+: all) (hn : foldP n S fs u pre = none) : foldP n S fs u all = none := by
  obtain ⟨r, rfl⟩ := h
  rw [fold_app, hn]
/-- The leaves are laid. -/
theorem RdX.setLeaves {B0 n1 x d : Nat} {D : Dk} {lv lv' fv rv : Value} {ls ls' : List Int} {L : List Fm} {u : Nat → Nat} {X : World} (h : RdX B0 n1 x d D lv ls L u fv rv X) (hr : RowI (AX B0 x fv) X lv' ls') : RdX B0 n1 x d D lv' ls' L u fv rv (X.setCell ⟨x, 2, none⟩ lv') := by
  have hk : ∀ b, AX B0 x fv b → b < X.heap.size → (X.setCell ⟨x, 2, none⟩ lv').heap[b]? = X.heap[b]? := fun b hb _ => Below.heap_setCell _ _ _ _ hb.2.1
  have hs : X.heap.size ≤ (X.setCell ⟨x, 2, none⟩ lv').heap.size := by simp
  obtain ⟨_, ⟨f1, f2⟩, _, _⟩ := five_set h.blk h.room lv'
  exact {
    blk := f1
    room := f2
    b0 := h.b0
    xn := h.xn
    big := Nat.le_trans h.big hs
    fs := h.fs.same fun y hy => Below.heap_setCell _ _ _ _ (by have := (h.fs.lt y hy).1; have := h.xn; show y ≠ x; omega)
    nilf := h.nilf
    secs := fun m hm => (h.secs m hm).keep hs hk
    free := h.free.keep hs hk
    leaves := hr.keep hs hk }
theorem RdX.rebase {B0 n1 n2 x d : Nat} {D : Dk} {lv rv : Value} {ls : List Int} {u : Nat → Nat} {X : World} (h : RdX B0 n1 x d D lv ls [] u (.slice none 0 0) rv X) (h1 : n1 ≤ n2) (h2 : n2 ≤ X.heap.size) : RdX B0 n2 x d D lv ls [] u (.slice none 0 0) rv X :=
  { blk := h.blk, room := h.room, b0 := h.b0, xn := Nat.lt_of_lt_of_le h.xn h1, big := h2, fs := OwF.nil _ _, nilf := fun _ => rfl, secs := h.secs, free := h.free, leaves := h.leaves }
/-- onLeaves itself. -/
theorem onLeaves_call (n : Nat) (d : Nat) (a : Option Addr) (k c : Nat) (w : World) : CallsIn Fence.wide n Tryz.prog 56 #[.pointer (some ⟨d, 0, none⟩), .slice a k c] w fun e w' => e = .returned (.func (.func 77) #[] #[.pointer (some ⟨w.heap.size + 1, 0, none⟩), .pointer (some ⟨w.heap.size, 0, none⟩)]) ∧ w' = (w.alloc (.cells #[.pointer (some ⟨d, 0, none⟩)] 41)).alloc (.cells #[.slice a k c] 49) := by
  refine callsIn_of_wp Tryz.func56 rfl trivial ?_ rfl
  simp only [Tryz.ntmps56, List.size_toArray, List.length_cons, List.length_nil, Nat.reduceAdd, Nat.reduceSub, Array.replicate_succ, Array.replicate_zero, List.push_toArray, List.append_toArray, List.nil_append, List.cons_append]
  gi_wp2
  go_ret
  exact ⟨rfl, rfl⟩
/-- What stands at the loop. -/
structure RdI (V : World) (B0 x d : Nat) (D : Dk) (lv : Value) (ls : List Int) (u0 : Nat → Nat) (pre : List (Option En)) (W : World) : Prop where
  tou : Tou (fun k => k = x) V W
  ex : ∃ L u fv rv, foldP D.n D.S [] u0 pre = some (L.map Fm.f, u) ∧ L.length ≤ 200 ∧ RdX B0 V.heap.size x d D lv ls L u fv rv W
/-- What read leaves. -/
def RdP (B0 x d : Nat) (D : Dk) (r : Option Ds) (e : Ending) (Y : World) : Prop := match r with
  | some S => e = .returned (.bool true) ∧ ∃ n1 L lv fv rv, L.map Fm.f = S.files ∧ L.length ≤ 200 ∧ RdX B0 n1 x d D lv S.leaves L S.use fv rv Y
  | none => e = .returned (.bool false)
/-- What stands ahead of the loop. -/
structure StR (w : World) (x d : Nat) (D : Dk) (W : World) : Prop where
  b1 : W.cell? ⟨w.heap.size, 0, none⟩ = some (.pointer (some ⟨x, 0, none⟩))
  b2 : W.cell? ⟨w.heap.size + 1, 0, none⟩ = some (.bool false)
  f2 : W.frozen? ⟨w.heap.size + 1, 0, none⟩ = false
  bb : W.heap[w.heap.size + 1]? = some (.cells #[.bool false] 4 (0, 0))
  big : w.heap.size + 2 ≤ W.heap.size
  tou : Tou (fun k => k = x) w W
  rep : Rep W d D
theorem frozen_of_block {w w' : World} {a : Addr} (h : w'.heap[a.block]? = w.heap[a.block]?) : w'.frozen? a = w.frozen? a := by
  unfold World.frozen?
  rw [h]
theorem StR.next {w W W' : World} {x d : Nat} {D : Dk} (h : StR w x d D W) (hx : x < w.heap.size) (hd : ∀ y, D.mut d y ∨ D.fix y → y ≠ x) (t : Tou (fun k => k = x) W W') : StR w x d D W' := by
  have hb := h.big
  have k1 := t.block w.heap.size (by omega) (by omega)
  have k2 := t.block (w.heap.size + 1) (by omega) (by omega)
  exact ⟨(World.cell?_of_block (a := ⟨w.heap.size, 0, none⟩) k1).trans h.b1, (World.cell?_of_block (a := ⟨w.heap.size + 1, 0, none⟩) k2).trans h.b2, (frozen_of_block (a := ⟨w.heap.size + 1, 0, none⟩) k2).trans h.f2, k2.trans h.bb, Nat.le_trans hb t.size, h.tou.trans t (fun _ _ h => h), h.rep.tou t (fun y hy hq => hd y hq hy)⟩
theorem StR.start {w : World} {x d : Nat} {D : Dk} (hR : Rep w d D) : StR w x d D ((w.alloc (.cells #[.pointer (some ⟨x, 0, none⟩)] 23)).alloc (.cells #[.bool false] 4)) := by
  have hb : Below w.heap.size w ((w.alloc (.cells #[.pointer (some ⟨x, 0, none⟩)] 23)).alloc (.cells #[.bool false] 4)) := by go_grown
  refine ⟨?_, ?_, ?_, ?_, by simp, Below.tou hb _, hR.below hb⟩
  · simp [go_sem]
  · simp [go_sem]
  · simp [go_sem]
  · have := World.alloc_heap_new (w.alloc (.cells #[.pointer (some ⟨x, 0, none⟩)] 23)) (.cells #[.bool false] 4)
    rwa [World.size_alloc] at this
theorem row_zero (X : World) : RowI (fun b => X.heap.size ≤ b) (X.alloc (.cells #[.int .i64 0] 3)) (.slice (some ⟨X.heap.size, 0, none⟩) 1 1) [0] := by
  refine ⟨by simp, _, 1, rfl, by simp, by omega, fun _ => ⟨X.heap.size, 0, rfl, Nat.le_refl _, by simp, fun j hj => ?_⟩⟩
  have : j = 0 := by simpa using hj
  subst this
  simp [go_sem]
theorem StR.over {w W : World} {x d : Nat} {D : Dk} {v : Value} (h : StR w x d D W) : Tou (fun k => k = x) w (W.setCell ⟨w.heap.size + 1, 0, none⟩ v) :=
  ⟨h.tou.os, h.tou.tape, h.tou.output, by simpa using h.tou.size, fun k hk hm => (Below.heap_setCell W _ _ k (fun e => by have : k = w.heap.size + 1 := e; omega)).trans (h.tou.block k hk hm)⟩
theorem RowI.int {A : Nat → Prop} {w : World} {v : Value} {l : List Int} (h : RowI A w v l) : RowI (fun k => A k ∧ ∃ j z, w.cell? ⟨k, j, none⟩ = some (.int .i64 z)) w v l := by
  obtain ⟨hl, a, c, e, h1, h2, h3⟩ := h
  refine ⟨hl, a, c, e, h1, h2, fun hn => ?_⟩
  obtain ⟨b, off, ea, hA, hb, hc⟩ := h3 hn
  exact ⟨b, off, ea, ⟨hA, off + 0, _, hc 0 (List.length_pos_iff.2 hn)⟩, hb, hc⟩
theorem RowI.keepI {A : Nat → Prop} {w w' : World} {v : Value} {l : List Int} (h : RowI A w v l) (hs : w.heap.size ≤ w'.heap.size) (hi : ∀ k, (∃ j z, w.cell? ⟨k, j, none⟩ = some (.int .i64 z)) → w'.heap[k]? = w.heap[k]?) : RowI A w' v l :=
  (h.int.keep hs fun b hb _ => hi b hb.2).mono fun b hb => hb.1
theorem RowI.lenEq {A : Nat → Prop} {w : World} {a : Option Addr} {n c : Nat} {l : List Int} (h : RowI A w (.slice a n c) l) : n = l.length := by
  obtain ⟨_, a', c', e, _⟩ := h
  injection e
theorem cell_cells {w : World} {k j : Nat} {v : Value} {o : Obj} (h : w.cell? ⟨k, j, none⟩ = some v) (ho : w.heap[k]? = some o) : o.isCells = true := by
  cases o with
  | cells => rfl
  | _ => simp [World.cell?, ho] at h
theorem RdX.keepI {B0 n1 x d : Nat} {D : Dk} {lv fv rv : Value} {ls : List Int} {L : List Fm} {u : Nat → Nat} {X Y : World} (h : RdX B0 n1 x d D lv ls L u fv rv X) (hs : X.heap.size ≤ Y.heap.size) (hi : ∀ k, (∃ j z, X.cell? ⟨k, j, none⟩ = some (.int .i64 z)) → Y.heap[k]? = X.heap[k]?) (hx : Y.heap[x]? = X.heap[x]?) (hf : ∀ g, fv.ownBlock = some g → Y.heap[g]? = X.heap[g]?) : RdX B0 n1 x d D lv ls L u fv rv Y :=
  { blk := (rowAt_same hx).trans h.blk
    room := (roomAt_same hx).trans h.room
    b0 := h.b0
    xn := h.xn
    big := Nat.le_trans h.big hs
    fs := h.fs.same hf
    nilf := h.nilf
    secs := fun m hm => (h.secs m hm).keepI hs hi
    free := h.free.keepI hs hi
    leaves := h.leaves.keepI hs hi }
theorem OwF.isC {w : World} {B : Nat} {v : Value} {L : List Fm} (h : OwF w B v L) : ∀ g, v.ownBlock = some g → ∃ o, w.heap[g]? = some o ∧ o.isCells = true := by
  intro g hg
  rcases h.cases with ⟨rfl, _⟩ | ⟨g', c, cur, rfl, _, hb, _⟩
  · cases hg
  · obtain rfl : g' = g := Option.some.inj hg
    exact ⟨_, hb, rfl⟩
/-- A change of blocks that are no cells. -/
theorem RdX.grown {B0 n1 x d : Nat} {D : Dk} {lv fv rv : Value} {ls : List Int} {L : List Fm} {u : Nat → Nat} {X Y : World} {row : Option Nat} (h : RdX B0 n1 x d D lv ls L u fv rv X) (hg : X.grownBy Y row) (hr : ∀ r, row = some r → n1 ≤ r ∧ ∃ o : Obj, X.heap[r]? = some o ∧ o.isCells = false) : RdX B0 n1 x d D lv ls L u fv rv Y := by
  have hne : ∀ k o, X.heap[k]? = some o → o.isCells = true → ¬ (some k = row) := fun k o ho hc e => by
    obtain ⟨_, o', ho', hc'⟩ := hr k e.symm
    rw [ho] at ho'
    rw [Option.some.inj ho', hc'] at hc
    cases hc
  refine h.keepI hg.size (fun k hk => ?_) (hg.block x (Nat.lt_of_lt_of_le h.xn h.big) fun e => by have := (hr x e.symm).1; have := h.xn; omega) fun g hg' => ?_
  · obtain ⟨j, z, hz⟩ := hk
    have hlt := World.block_lt_of_cell? _ _ hz
    exact hg.block k hlt (hne k _ (Array.getElem?_eq_getElem hlt) (cell_cells hz (Array.getElem?_eq_getElem hlt)))
  · obtain ⟨o, ho, hc⟩ := h.fs.isC g hg'
    exact hg.block g (Array.getElem?_eq_some_iff.1 ho).1 (hne g o ho hc)
theorem RdI.grown {V : World} {B0 x d : Nat} {D : Dk} {lv : Value} {ls : List Int} {u0 : Nat → Nat} : OwnFrom V.heap.size (RdI V B0 x d D lv ls u0) := by
  intro s A B row h hg hr
  obtain ⟨ht, L, u, fv, rv, hf, hl, hx⟩ := h
  exact ⟨⟨hg.os.trans ht.os, hg.tape.trans ht.tape, hg.output.trans ht.output, Nat.le_trans ht.size hg.size, fun k hk hm => (hg.block k (Nat.lt_of_lt_of_le hk ht.size) (fun e => by have := (hr k e.symm).1; omega)).trans (ht.block k hk hm)⟩, L, u, fv, rv, hf, hl, hx.grown hg hr⟩
/-- What an entry is in its box. -/
def entC : Option En → Array Value
  | some e => #[.string e.nm, .int .i64 e.hd, .int .i64 e.ln]
  | none => #[.string ⟨#[]⟩, .int .i64 0, .int .i64 0]
theorem addF_len {n : Nat} {S : Nat → Nat → Int} {fs : List Fi} {u : Nat → Nat} {e : En} {q : List Fi × (Nat → Nat)} (h : addF n S fs u e = some q) (hl : fs.length ≤ 200) : q.1.length ≤ 200 := by
  unfold addF at h
  split at h
  · cases h
  · split at h
    · cases h
    · split at h
      · cases h
      · rename_i secs hs
        cases ht : takeAll n 0 1 u secs with
        | none => rw [ht] at h; cases h
        | some v =>
          rw [ht] at h
          rw [← Option.some.inj h]
          simp
          omega
theorem OwF.first {w : World} {B : Nat} {v : Value} {L : List Fm} (h : OwF w B v L) (hl : L ≠ []) : ∀ g, v.ownBlock = some g → ∃ s, w.cell? ⟨g, 0, none⟩ = some (.string s) := by
  intro g hg
  rcases h.cases with ⟨rfl, _⟩ | ⟨g', c, cur, rfl, _, hb, _, _, _, h4⟩
  · cases hg
  · obtain rfl : g' = g := Option.some.inj hg
    have h0 := List.length_pos_iff.2 hl
    refine ⟨L[0].f.nm, ?_⟩
    rw [cell_of_row w g' _ cur _ (0, 0) hb]
    have := filesC_at L 0 0 h0 (by decide)
    rw [← h4, List.getElem?_take, if_pos (by omega)] at this
    simpa [Fm.cs] using this
theorem tou_back {V W W' : World} {x : Nat} {fv : Value} {L : List Fm} (ht : Tou (fun k => k = x) V W) (ho : OwF W V.heap.size fv L) (h : Tou (fun k => k = x ∨ fv.ownBlock = some k) W W') : Tou (fun k => k = x) V W' :=
  ht.trans h fun k hk hm => hm.elim id fun e => by have := (ho.lt k e).1; omega
theorem keepsF_tou {B0 n1 x d : Nat} {D : Dk} {lv fv rv : Value} {ls : List Int} {L : List Fm} {u : Nat → Nat} {W W' : World} (hx : RdX B0 n1 x d D lv ls L u fv rv W) (h : Tou (fun k => k = x ∨ fv.ownBlock = some k) W W') : KeepsFrom n1 W W' :=
  ⟨h.size, fun k o hk ho hc => by
    refine (h.block k (Array.getElem?_eq_some_iff.1 ho).1 fun hm => ?_).trans ho
    rcases hm with rfl | e
    · have := hx.xn; omega
    · obtain ⟨o', ho', hc'⟩ := hx.fs.isC k e
      rw [ho] at ho'
      rw [← Option.some.inj ho', hc] at hc'
      cases hc'⟩
theorem keepsX_tou {B0 n1 x d : Nat} {D : Dk} {lv fv rv : Value} {ls : List Int} {L : List Fm} {u : Nat → Nat} {W W' : World} (hx : RdX B0 n1 x d D lv ls L u fv rv W) (h : Tou (fun k => k = x ∨ fv.ownBlock = some k) W W') : KpX n1 x W W' :=
  ⟨h.os, h.tape, h.output, h.size, fun k hk hne hc => h.block k hk fun hm => by
    rcases hm with rfl | e
    · exact hne rfl
    · rcases hc with hc | ⟨z, hz⟩
      · have := (hx.fs.lt k e).1; omega
      · by_cases hl : L = []
        · rw [hx.nilf hl] at e; cases e
        · obtain ⟨s, hs⟩ := hx.fs.first hl k e
          rw [hs] at hz
          cases hz⟩
theorem RowI.keepX {w X Y : World} {x : Nat} {v : Value} {l : List Int} (h : RowI (fun b => w.heap.size ≤ b) X v l) (hx : x < w.heap.size) (t : Tou (fun k => k = x) X Y) : RowI (fun b => w.heap.size ≤ b) Y v l :=
  h.keep t.size fun b hb hlt => t.block b hlt (by show b ≠ x; omega)
theorem rootP_le {n : Nat} {S : Nat → Nat → Int} {ls : List Int} (h : rootP n S = some ls) : ls.length ≤ 7 := by
  unfold rootP at h
  cases hm : markedP n S 0 rootM 7 with
  | none => rw [hm] at h; cases h
  | some m =>
    rw [hm] at h
    have e := Option.some.inj h
    have := (marked_le hm).2.2.2.2
    rw [← e, wordsP_len]
    omega
set_option maxHeartbeats 8000000 in
theorem read_in (n : Nat) (hn : 4 ≤ n) (B0 n1 x d : Nat) (D : Dk) (rv : Value) (m0 : Int) (w : World) (h : RdX B0 n1 x d D (.slice none 0 0) [] [] (fun _ => 0) (.slice none 0 0) rv w) (hR : Rep w d D) (hdx : ∀ y, D.mut d y ∨ D.fix y → y ≠ x) (hm : w.cell? ⟨0, 0, none⟩ = some (.int .i64 m0)) (hx0 : 0 ≠ x) :
    CallsIn Fence.wide n Tryz.prog 30 #[.pointer (some ⟨x, 0, none⟩)] w fun e W' => RdP B0 x d D (openP D.n D.S) e W' ∧ Tou (fun k => k = x) w W' := by
  have h1 : 1 ≤ n := by omega
  obtain ⟨c0, _⟩ := h.cell
  have hx : x < w.heap.size := Nat.lt_of_lt_of_le h.xn h.big
  have HRT := hidD (fun X (hX : Rep X d D) => readRoot_any d D X hX)
  have HDX := hidD hdx
  have HM := hidD hm
  have HS := hidD (StR.start (x := x) hR)
  have H := hidD (h.below (show Below w.heap.size w ((w.alloc (.cells #[.pointer (some ⟨x, 0, none⟩)] 23)).alloc (.cells #[.bool false] 4)) by go_grown))
  have n1024 := hR.n1
  clear h hR hdx hm
  obtain ⟨r, hr⟩ : ∃ r, openP D.n D.S = r := ⟨_, rfl⟩
  rw [hr]
  revert hr
  unfold openP
  cases hrt : rootP D.n D.S with
  | none =>
    rintro rfl
    rw [hrt] at HRT
    clear hrt
    refine callsIn_of_wp_marks Tryz.func30 rfl trivial ?_ rfl
    simp only [Tryz.ntmps30, List.size_toArray, List.length_cons, List.length_nil, Nat.reduceAdd, Nat.reduceSub, Array.replicate_succ, Array.replicate_zero, List.push_toArray, List.append_toArray, List.nil_append, List.cons_append]
    gi_wp2_with (first
      | (refine ⟨trivial, ?_⟩; gi_at_call 54; refine (callsIn_wide.2 (HRT.out _ HS.out.rep)).mono ?_; rintro e w1 ⟨he, hb⟩; obtain ⟨vv, rfl, ho⟩ := (show ∃ v, e = .returned (.tuple #[v, .bool false]) ∧ OwI w1 _ v [] from he); obtain ⟨va, vn, vc, rfl⟩ := ho.isSl; have HS1 := hidD (HS.out.next hx HDX.out (Below.tou hb _)); clear hb ho he; have z1 := HS1.out.b1; have z2 := HS1.out.b2; have z3 := HS1.out.f2)
      | (refine ⟨trivial, ?_⟩; go_at_K))
    refine ⟨.bool false, ?_, rfl, HS1.out.over⟩
    simp [results, Tryz.f30, go_sem, z2]
  | some ls =>
    rw [hrt] at HRT
    have hls := rootP_le hrt
    clear hrt
    simp only []
    cases ht0 : takeAll D.n 0 1 (fun _ => 0) [0] with
    | none =>
      rintro rfl
      refine callsIn_of_wp_marks Tryz.func30 rfl trivial ?_ rfl
      have HCL := hidD ht0
      clear ht0
      simp only [Tryz.ntmps30, List.size_toArray, List.length_cons, List.length_nil, Nat.reduceAdd, Nat.reduceSub, Array.replicate_succ, Array.replicate_zero, List.push_toArray, List.append_toArray, List.nil_append, List.cons_append]
      gi_wp2_with (first
        | (refine ⟨trivial, ?_⟩; gi_at_call 54; refine (callsIn_wide.2 (HRT.out _ HS.out.rep)).mono ?_; rintro e w1 ⟨he, hb⟩; obtain ⟨vv, rfl, ho⟩ := (show ∃ v, e = .returned (.tuple #[v, .bool true]) ∧ OwI w1 _ v ls from he); obtain ⟨va, vn, vc, rfl⟩ := ho.isSl; have HS1 := hidD (HS.out.next hx HDX.out (Below.tou hb _)); have H1 := hidD (H.out.below hb); have HO := hidD ho; clear hb ho he; have z1 := HS1.out.b1; have z2 := HS1.out.b2; have z3 := HS1.out.f2)
        | (refine ⟨trivial, ?_⟩; gi_at_call 55; refine (callsIn_wide.2 (claim_any (H1.out.below (by go_grown)) _ _ (row_zero w1) n1024)).mono ?_; rw [HCL.out]; rintro e w2 ⟨he, ht⟩; obtain rfl := (show e = .returned (.bool false) from he); have HS2 := hidD ((HS1.out.next hx HDX.out (Below.tou (by go_grown) _)).next hx HDX.out ht); clear he ht; have y1 := HS2.out.b1; have y2 := HS2.out.b2; have y3 := HS2.out.f2)
        | (refine ⟨trivial, ?_⟩; go_at_K))
      refine ⟨.bool false, ?_, rfl, HS2.out.over⟩
      simp [results, Tryz.f30, go_sem, y2]
    | some u0 =>
      have HCL := hidD ht0
      clear ht0
      simp only []
      cases ht1 : takeAll D.n 0 1 u0 ls with
      | none =>
        rintro rfl
        have HCM := hidD ht1
        clear ht1
        refine callsIn_of_wp_marks Tryz.func30 rfl trivial ?_ rfl
        simp only [Tryz.ntmps30, List.size_toArray, List.length_cons, List.length_nil, Nat.reduceAdd, Nat.reduceSub, Array.replicate_succ, Array.replicate_zero, List.push_toArray, List.append_toArray, List.nil_append, List.cons_append]
        gi_wp2_with (first
          | (refine ⟨trivial, ?_⟩; gi_at_call 54; refine (callsIn_wide.2 (HRT.out _ HS.out.rep)).mono ?_; rintro e w1 ⟨he, hb⟩; obtain ⟨vv, rfl, ho⟩ := (show ∃ v, e = .returned (.tuple #[v, .bool true]) ∧ OwI w1 _ v ls from he); obtain ⟨va, vn, vc, rfl⟩ := ho.isSl; have HS1 := hidD (HS.out.next hx HDX.out (Below.tou hb _)); have H1 := hidD (H.out.below hb); have hro := OwI.row (ho.base (show w.heap.size ≤ _ by simp; omega)) (by omega); obtain rfl := hro.lenEq; have HO := hidD hro; clear hb ho he hro; have z1 := HS1.out.b1; have z2 := HS1.out.b2; have z3 := HS1.out.f2)
          | (refine ⟨trivial, ?_⟩; gi_at_call 55; refine (callsIn_wide.2 (claim_any H2.out _ _ HO2.out n1024)).mono ?_; rw [HCM.out]; rintro e w3 ⟨he, ht⟩; obtain rfl := (show e = .returned (.bool false) from he); have HS3 := hidD (HS2.out.next hx HDX.out ht); clear he ht; have x1 := HS3.out.b1; have x2 := HS3.out.b2; have x3 := HS3.out.f2)
          | (refine ⟨trivial, ?_⟩; gi_at_call 55; refine (callsIn_wide.2 (claim_any (H1.out.below (by go_grown)) _ _ (row_zero w1) n1024)).mono ?_; rw [HCL.out]; rintro e w2 ⟨he, ht⟩; obtain ⟨rv1, rfl, hr2⟩ := (show ∃ rv', e = .returned (.bool true) ∧ RdX B0 n1 x d D (.slice none 0 0) [] [] u0 (.slice none 0 0) rv' w2 from he); have HS2 := hidD ((HS1.out.next hx HDX.out (Below.tou (by go_grown) _)).next hx HDX.out ht); have H2 := hidD hr2; have HO2 := hidD ((HO.out.below (show Below w1.heap.size w1 (w1.alloc (.cells #[.int .i64 0] 3)) by go_grown)).keepX hx ht); clear he ht hr2; have y1 := HS2.out.b1; have y2 := HS2.out.b2; have y3 := HS2.out.f2)
          | (refine ⟨trivial, ?_⟩; go_at_K))
        refine ⟨.bool false, ?_, rfl, HS3.out.over⟩
        simp [results, Tryz.f30, go_sem, x2]
      | some u1 =>
        have HCM := hidD ht1
        clear ht1
        simp only []
        intro hr
        have HRR := hidD hr
        clear hr
        refine callsIn_of_wp_marks Tryz.func30 rfl trivial ?_ rfl
        simp only [Tryz.ntmps30, List.size_toArray, List.length_cons, List.length_nil, Nat.reduceAdd, Nat.reduceSub, Array.replicate_succ, Array.replicate_zero, List.push_toArray, List.append_toArray, List.nil_append, List.cons_append]
        gi_wp2_with (first
          | (refine ⟨trivial, ?_⟩; gi_at_call 54; refine (callsIn_wide.2 (HRT.out _ HS.out.rep)).mono ?_; rintro e w1 ⟨he, hb⟩; obtain ⟨vv, rfl, ho⟩ := (show ∃ v, e = .returned (.tuple #[v, .bool true]) ∧ OwI w1 _ v ls from he); obtain ⟨va, vn, vc, rfl⟩ := ho.isSl; have HS1 := hidD (HS.out.next hx HDX.out (Below.tou hb _)); have H1 := hidD (H.out.below hb); have hro := OwI.row (ho.base (show w.heap.size ≤ _ by simp; omega)) (by omega); obtain rfl := hro.lenEq; have HO := hidD hro; clear hb ho he hro; have z1 := HS1.out.b1; have z2 := HS1.out.b2; have z3 := HS1.out.f2)
          | (refine ⟨trivial, ?_⟩; gi_at_call 55; refine (callsIn_wide.2 (claim_any H2.out _ _ HO2.out n1024)).mono ?_; rw [HCM.out]; rintro e w3 ⟨he, ht⟩; obtain ⟨rv2, rfl, hr3⟩ := (show ∃ rv', e = .returned (.bool true) ∧ RdX B0 n1 x d D (.slice none 0 0) [] [] u1 (.slice none 0 0) rv' w3 from he); have HS3 := hidD (HS2.out.next hx HDX.out ht); have H3 := hidD hr3; have HO3 := hidD (HO2.out.keepX hx ht); clear he ht hr3; have x1 := HS3.out.b1; have x2 := HS3.out.b2; have x3 := HS3.out.f2; obtain ⟨xa, xb, xc, xd, xe⟩ := H3.out.cell; have xf := room_fz H3.out.room (show 2 < 5 by decide))
          | (refine ⟨trivial, ?_⟩; gi_at_call 55; refine (callsIn_wide.2 (claim_any (H1.out.below (by go_grown)) _ _ (row_zero w1) n1024)).mono ?_; rw [HCL.out]; rintro e w2 ⟨he, ht⟩; obtain ⟨rv1, rfl, hr2⟩ := (show ∃ rv', e = .returned (.bool true) ∧ RdX B0 n1 x d D (.slice none 0 0) [] [] u0 (.slice none 0 0) rv' w2 from he); have HS2 := hidD ((HS1.out.next hx HDX.out (Below.tou (by go_grown) _)).next hx HDX.out ht); have H2 := hidD hr2; have HO2 := hidD ((HO.out.below (show Below w1.heap.size w1 (w1.alloc (.cells #[.int .i64 0] 3)) by go_grown)).keepX hx ht); clear he ht hr2; have y1 := HS2.out.b1; have y2 := HS2.out.b2; have y3 := HS2.out.f2)
          | (refine ⟨trivial, ?_⟩; gi_at_call 56; refine (onLeaves_call (n - 1) _ _ _ _ _).mono ?_; rintro e w4 ⟨rfl, rfl⟩)
          | (refine ⟨trivial, ?_⟩; go_at_K))
        obtain ⟨V, hV⟩ : ∃ V, V = ((w3.setCell ⟨x, 2, none⟩ (.slice va ls.length vc)).alloc (.cells #[.pointer (some ⟨d, 0, none⟩)] 41)).alloc (.cells #[.slice va ls.length vc] 49) := ⟨_, rfl⟩
        have hB : Below w3.heap.size (w3.setCell ⟨x, 2, none⟩ (.slice va ls.length vc)) V := by rw [hV]; go_grown
        have hc1 : V.cell? ⟨w3.heap.size + 1, 0, none⟩ = some (.slice va ls.length vc) := by rw [hV]; simp [go_sem]
        have hc2 : V.cell? ⟨w3.heap.size, 0, none⟩ = some (.pointer (some ⟨d, 0, none⟩)) := by rw [hV]; simp [go_sem]
        have hsz : V.heap.size = w3.heap.size + 2 := by rw [hV]; simp
        rw [← hV]
        have hax : ∀ b, w.heap.size ≤ b → AX B0 x (.slice none 0 0) b := fun b hb => ⟨by have := H.out.b0; omega, by omega, by simp [Value.ownBlock]⟩
        have HSV : Hid (StR w x d D V) := (HS3.out.next hx HDX.out (tou_x (k := 2) (v := .slice va ls.length vc) (Below.refl _ w3))).next hx HDX.out (Below.tou (by simpa using hB) _)
        have HRV : Hid (RdX B0 V.heap.size x d D (.slice va ls.length vc) ls [] u1 (.slice none 0 0) rv2 V) := RdX.rebase ((H3.out.setLeaves (HO3.out.mono hax)).below (by simpa using hB)) (by have := H3.out.big; omega) (Nat.le_refl _)
        clear hV hB
        have HOB : Hid (OnB V x d (w3.heap.size + 1) w3.heap.size D (AX B0 x (.slice none 0 0)) va vc ls m0) := by
          have hx3 := HS3.out.big
          exact ⟨HSV.out.rep, HDX.out, HRV.out.leaves, fun b hb => hb.2.1, hc1, hc2, by omega, by omega, (World.cell?_of_block (a := ⟨0, 0, none⟩) (HSV.out.tou.block 0 (by omega) (by show 0 ≠ x; exact hx0))).trans HM.out, hx0, by omega⟩
        have HI0 : Hid (RdI V B0 x d D (.slice va ls.length vc) ls u1 [] V) := ⟨Tou.refl _ _, [], u1, _, rv2, rfl, by simp, HRV.out⟩
        have hxv : x < V.heap.size := HRV.out.xn
        have hwv : w.heap.size + 2 ≤ V.heap.size := HSV.out.big
        clear hc1 hc2 H2 H3 HO HO2 HO3 HS1 HS2 HS3 H1 HS H HRV z1 z2 z3 y1 y2 y3 x1 x2 x3 xa xb xc xd xe xf
        refine wpIn_rangeFunc_ownH rfl h1 (gf := 77) (lb := #[.pointer (some ⟨w3.heap.size + 1, 0, none⟩), .pointer (some ⟨w3.heap.size, 0, none⟩)]) rfl trivial (enters_of Tryz.func77 (by kernel_rfl) rfl)
          (w0 := V) (encs := encE) (Kp := KpX V.heap.size x) (S := fun ys => ys = cutN (itemsP D.n D.S ls)) (Sp := fun pre => pre <+: cutN (itemsP D.n D.S ls)) (N := (cutN (itemsP D.n D.S ls)).length)
          (fun l₀ J Jx W hW hJ hJx hY h0 => onLeaves_in (n - 1) (by omega) l₀ x d _ _ D (AX B0 x (.slice none 0 0)) va vc ls m0 V HOB.out (by omega) J Jx (fun s A B hs hg => hJ s A B none hs hg (fun r e => by cases e)) hY W hW h0)
          KpX.t (fun W l o o' h1 h2 h3 _ => KpX.put (Nat.le_refl _) W l o o' h1 h2 h3) (Below.refl _ _) (fun y => by cases y <;> rfl)
          (RdI V B0 x d D (.slice va ls.length vc) ls u1)
          (fun cd pre W => cd = .ret ∧ W.cell? ⟨w.heap.size + 1, 0, none⟩ = some (.bool false) ∧ foldP D.n D.S [] u1 pre = none ∧ Tou (fun k => k = x) w W)
          RdI.grown
          (fun cd s A B row hs hg hr => ⟨hs.1, cell_kept hs.2.1 hg (fun r e => (hr r e).2), hs.2.2.1, ⟨hg.os.trans hs.2.2.2.os, hg.tape.trans hs.2.2.2.tape, hg.output.trans hs.2.2.2.output, Nat.le_trans hs.2.2.2.size hg.size, fun k hk hm => (hg.block k (Nat.lt_of_lt_of_le hk hs.2.2.2.size) (fun e => by have := (hr k e.symm).1; omega)).trans (hs.2.2.2.block k hk hm)⟩⟩)
          HI0.out
          (fun y a' W => ∃ g, V.heap.size ≤ g ∧ W.heap[g]? = some (.cells (entC y) 25 (0, 0)) ∧ ∃ t39, a' = { tmps := #[.pointer (some ⟨x, 0, none⟩), .pointer (some ⟨w.heap.size, 0, none⟩), .pointer (some ⟨w.heap.size + 1, 0, none⟩), .slice va ls.length vc, .bool true, .pointer (some ⟨g, 0, none⟩), .bool y.isSome, .tuple #[.slice va ls.length vc, .bool true], .pointer (some ⟨x, 0, none⟩), .pointer (some ⟨x, 0, none⟩), .pointer (some ⟨x, 0, none⟩), .pointer (some ⟨d, 0, none⟩), .tuple #[.slice va ls.length vc, .bool true], .slice va ls.length vc, .bool true, .bool true, .bool false, .bool false, .pointer (some ⟨x, 0, none⟩), .slice (some ⟨w1.heap.size, 0, none⟩) 1 1, .bool true, .bool false, .bool false, .bool false, .pointer (some ⟨x, 0, none⟩), .slice va ls.length vc, .bool true, .bool false, .bool false, .pointer (some ⟨x, 0, none⟩), .slice va ls.length vc, .pointer (some ⟨x, 0, none⟩), .pointer (some ⟨x, 2, none⟩), .pointer (some ⟨x, 0, none⟩), .pointer (some ⟨x, 0, none⟩), .pointer (some ⟨x, 0, none⟩), .pointer (some ⟨d, 0, none⟩), .slice va ls.length vc, .func (.func 77) #[] #[.pointer (some ⟨w3.heap.size + 1, 0, none⟩), .pointer (some ⟨w3.heap.size, 0, none⟩)], t39, .bool y.isSome, undef, undef, undef, undef, undef, undef, undef, undef], defers := [] })
          (fun y a' _ A B row hs hg hr => by
            obtain ⟨g, h1, h2, h3⟩ := hs
            exact ⟨g, h1, (grownBy_keeps_cells hg (fun r e => (hr r e).2) h2 rfl).trans h2, h3⟩)
          ?assign ?body ?done ?stop
        case assign =>
          intro l pre y W K hI hK
          have HI := hidD hI
          clear hI
          have HK := hidD hK
          clear hK
          have hfin : ∀ C : Array Value, Hid (KeepsFrom V.heap.size W (W.alloc (.cells C 25)) ∧ KpX V.heap.size x W (W.alloc (.cells C 25)) ∧ RdI V B0 x d D (.slice va ls.length vc) ls u1 pre (W.alloc (.cells C 25)) ∧ V.heap.size ≤ W.heap.size) := fun C => ⟨(KeepsOthers.alloc W _).from _, KpX.below ((Below.refl _ _).alloc (Nat.le_refl _) _), RdI.grown.alloc _ HI.out, HI.out.tou.size⟩
          cases y with
          | none =>
            dsimp only [encE, zeroE]
            gi_wp2
            obtain ⟨f1, f2, f3, f4⟩ := (hfin #[.string ⟨#[]⟩, .int .i64 0, .int .i64 0]).out
            exact HK.out _ _ f1 f2 f3 ⟨W.heap.size, f4, World.alloc_heap_new _ _, _, rfl⟩
          | some e =>
            dsimp only [encE, En.val]
            gi_wp2
            obtain ⟨f1, f2, f3, f4⟩ := (hfin #[.string e.nm, .int .i64 e.hd, .int .i64 e.ln]).out
            exact HK.out _ _ f1 f2 f3 ⟨W.heap.size, f4, World.alloc_heap_new _ _, _, rfl⟩
        case body =>
          rintro l pre y a' W hl hlr hI ⟨g, hg, hgb, t39, rfl⟩ hlt
          have HSW := hidD (HSV.out.next hx HDX.out hI.tou)
          obtain ⟨ht, L, u, fv, rv3, hf, hL, hr⟩ := hI
          have z1 := HSW.out.b1
          have z2 := HSW.out.b2
          have z3 := HSW.out.f2
          have HT := hidD ht
          have hVW := ht.size
          have HF := hidD hf
          have HX := hidD hr
          clear ht hf hr hlr
          cases y with
          | none =>
            dsimp only [Option.isSome]
            gi_wp2_with (refine ⟨trivial, ?_⟩; go_at_K)
            refine ⟨(KeepsOthers.setCell W _ _).from _, rfl, World.cell?_setCell_same' W ⟨w.heap.size + 1, 0, none⟩ (.bool false) (by rw [z2]; rfl), ?_, HSW.out.over⟩
            rw [fold_app, HF.out]; rfl
          | some e =>
            have e0 : W.cell? ⟨g, 0, none⟩ = some (.string e.nm) := by simp [World.cell?, hgb, entC]
            have e1 : W.cell? ⟨g, 1, none⟩ = some (.int .i64 e.hd) := by simp [World.cell?, hgb, entC]
            have e2 : W.cell? ⟨g, 2, none⟩ = some (.int .i64 e.ln) := by simp [World.cell?, hgb, entC]
            have hfo := fold_app D.n D.S pre [some e] [] u1
            rw [HF.out] at hfo
            simp only [foldP] at hfo
            have HFO := hidD hfo
            clear hgb hfo
            dsimp only [Option.isSome]
            cases ha : addF D.n D.S (L.map Fm.f) u e with
            | none =>
              rw [ha] at HFO
              have HA := hidD ha
              clear ha
              gi_wp2_with (first | (refine ⟨trivial, fun _ => by omega, ?_⟩; gi_at_call 57; refine (CallsIn.inRound _ (callsIn_wide.2 (readFile_any HX.out HSW.out.rep e hL))).mono ?_; rw [HA.out]; rintro r w5 ⟨he, ht5⟩; obtain rfl := (show r = .returned (.bool false) from he); have htv := tou_back HT.out HX.out.fs ht5; have HS5 := hidD (HSV.out.next hx HDX.out htv); have HTV := hidD htv; have HKF := hidD (keepsF_tou HX.out ht5); have HKP := hidD (keepsX_tou HX.out ht5); clear he ht5 htv; have y1 := HS5.out.b1; have y2 := HS5.out.b2; have y3 := HS5.out.f2) | (refine ⟨trivial, ?_⟩; go_at_K))

              refine ⟨HKF.out.trans ((KeepsOthers.setCell w5 _ _).from _), rfl, World.cell?_setCell_same' w5 ⟨w.heap.size + 1, 0, none⟩ (.bool false) (by rw [y2]; rfl), HFO.out, HS5.out.over⟩
            | some q =>
              rw [ha] at HFO
              have hlq := addF_len ha (by simpa using hL)
              have HA := hidD ha
              clear ha
              gi_wp2_with (first | (refine ⟨trivial, fun _ => by omega, ?_⟩; gi_at_call 57; refine (CallsIn.inRound _ (callsIn_wide.2 (readFile_any HX.out HSW.out.rep e hL))).mono ?_; rw [HA.out]; rintro r w5 ⟨he, ht5⟩; obtain ⟨L', fv', rv', rfl, hL', hr'⟩ := (show ∃ L' fv' rv', r = .returned (.bool true) ∧ L'.map Fm.f = q.1 ∧ RdX B0 V.heap.size x d D (.slice va ls.length vc) ls L' q.2 fv' rv' w5 from he); have HE : Hid (∃ L' fv' rv', L'.map Fm.f = q.1 ∧ RdX B0 V.heap.size x d D (.slice va ls.length vc) ls L' q.2 fv' rv' w5) := ⟨L', fv', rv', hL', hr'⟩; clear hL' hr'; have htv := tou_back HT.out HX.out.fs ht5; have HS5 := hidD (HSV.out.next hx HDX.out htv); have HTV := hidD htv; have HKF := hidD (keepsF_tou HX.out ht5); have HKP := hidD (keepsX_tou HX.out ht5); clear he ht5 htv; have y1 := HS5.out.b1; have y2 := HS5.out.b2; have y3 := HS5.out.f2) | (refine ⟨trivial, ?_⟩; go_at_K))
              obtain ⟨L', fv', rv', hL', hr'⟩ := HE.out
              exact ⟨HKF.out, HKP.out, HTV.out, L', q.2, fv', rv', by rw [HFO.out, hL'], by rw [← hL'] at hlq; simpa using hlq, hr'⟩
        case done =>
          rintro Df ys W hD rfl hI hK
          have HS5 := hidD (HSV.out.next hx HDX.out hI.tou)
          obtain ⟨ht, L, u, fv, rv3, hf, hL, hr⟩ := hI
          rw [fold_cut] at hf
          have y2 := HS5.out.b2
          have y3 := HS5.out.f2
          have HX := hidD hr
          have HF := hidD hf
          clear ht hf hr
          gi_wp2
          have hK' := (KeepsOthers.setCell W ⟨w.heap.size + 1, 0, none⟩ (.bool true)).same Df _ hK rfl
          refine ⟨by simp, .inl ⟨_, _, rfl, run_takeDeferred hK', ?_⟩⟩
          have hc5 := cell_kept (World.cell?_setCell_same' W ⟨w.heap.size + 1, 0, none⟩ (.bool true) (by rw [y2]; rfl)) (grownBy_putObj' _ Df (.deferred none)) (fun r e => by cases e; exact ⟨_, hK', rfl⟩)
          have hrr := HRR.out
          rw [HF.out] at hrr
          have hrr' := hrr.symm
          clear hrr HRR
          subst hrr'
          refine ⟨.bool true, ?_, ⟨rfl, V.heap.size, L, .slice va ls.length vc, fv, rv3, rfl, hL, ?_⟩, ?_⟩
          · simp [results, Tryz.f30, go_sem, hc5]
          · refine (HX.out.keepI (by simp) (fun k hk => ?_) ?_ fun g hg => ?_).grown (grownBy_putObj' _ Df (.deferred none)) (fun r e => by cases e; exact ⟨hD, _, hK', rfl⟩)
            · refine Below.heap_setCell _ _ _ _ fun e => ?_
              obtain ⟨j, z, hz⟩ := hk
              have e' : k = w.heap.size + 1 := e
              subst e'
              have hb := HS5.out.bb
              simp only [World.cell?, hb] at hz
              cases j with
              | zero => simp at hz
              | succ j => simp at hz
            · exact Below.heap_setCell _ _ _ _ (by show x ≠ w.heap.size + 1; omega)
            · exact Below.heap_setCell _ _ _ _ (by have := (HX.out.fs.lt g hg).1; show g ≠ w.heap.size + 1; omega)
          · have ho := HS5.out.over (v := .bool true)
            have hg := grownBy_putObj' (W.setCell ⟨w.heap.size + 1, 0, none⟩ (.bool true)) Df (.deferred none)
            exact ⟨hg.os.trans ho.os, hg.tape.trans ho.tape, hg.output.trans ho.output, Nat.le_trans ho.size hg.size, fun k hk hm => (hg.block k (Nat.lt_of_lt_of_le hk ho.size) (fun e => by injection e with e; omega)).trans (ho.block k hk hm)⟩
        case stop =>
          rintro Df cd pre W hD hpre ⟨rfl, hc, hn0, ht⟩ hK
          have hnone := fold_pre hpre hn0
          rw [fold_cut] at hnone
          gi_wp2
          refine ⟨by simp, .inl ⟨_, _, rfl, run_takeDeferred hK, ?_⟩⟩
          have hc5 := cell_kept hc (grownBy_putObj' _ Df (.deferred none)) (fun r e => by cases e; exact ⟨_, hK, rfl⟩)
          have hrr := HRR.out
          rw [hnone] at hrr
          have hrr' := hrr.symm
          clear hrr HRR
          subst hrr'
          refine ⟨.bool false, ?_, rfl, ?_⟩
          · simp [results, Tryz.f30, go_sem, hc5]
          · have hg := grownBy_putObj' W Df (.deferred none)
            exact ⟨hg.os.trans ht.os, hg.tape.trans ht.tape, hg.output.trans ht.output, Nat.le_trans ht.size hg.size, fun k hk hm => (hg.block k (Nat.lt_of_lt_of_le hk ht.size) (fun e => by injection e with e; omega)).trans (ht.block k hk hm)⟩
end Go.Proofs.YtmjflbleobmjdaaGreatDoor
