/-
  Layer 7: an object that came in, opened.
  Layer 7: an object that came in, opened; how much room its rows take.
  Layer 7: an object's rows, copied into rows with a place of spare room.
  Layer 7: descriptors copied, one by one, each with its tags.
-/
import Derived.Test.YtmfdomabegaidaaMDds
import Derived.SizedLaws
import Derived.ProofKit
import Derived.OpenShut
import Derived.ShutString
import Derived.ChangeOld
import Derived.Below
import Derived.Deep.Slices
import Derived.Test.YtmfdomabegaidaaMDby
namespace Go.Proofs.Ytmfdomabegaidaa
open Go.ChangeShapes Go.WideShapes Go.ChangeAt Go.RowKit
set_option linter.unusedVariables false
theorem wfU {z : Int} (h : (Lit.int .u32 z).wf = true) : 0 ≤ z ∧ z ≤ 4294967295 := by simpa [Lit.wf, IntKind.min, IntKind.max, IntKind.signed, IntKind.bits] using h
theorem at_of {l : List Value} {k : Nat} {v : Value} (h : (l.drop k).take 1 = [v]) : l[k]? = some v := by
  have : ((l.drop k).take 1)[0]? = some v := by rw [h]; rfl
  simpa using this
theorem some_of {α : Type} {xs : List α} {n i : Nat} (h : xs.length = n) (hi : i < n) : ∃ y, xs[i]? = some y := ⟨xs[i]'(by omega), List.getElem?_eq_getElem (by omega)⟩
section
variable {H : Type} {enc : TypeId × Value → H} {W : World} {base : Nat} {spare : Nat → Bool} {held : Bool}
theorem num_at {n : Nat} {l : List Value} {k : Nat} {t : TypeId} {q : IntKind} {xs : List (DataW H × List MemPlace)} {i m : Nat} (hu : Try.prog.underlying t = some (.int q)) (hcl : Try.prog.cellsOf t = 1) (hm : xs.length = m) (hi : i < m) (h : DataW.trod enc Try.prog W base spare held n t ((l.drop k).take (Try.prog.cellsOf t)) = xs[i]?) :
    ∃ z, l[k]? = some (.int q z) ∧ (Lit.int q z).wf = true := by
  obtain ⟨y, hy⟩ := some_of hm hi
  rw [hy, hcl] at h
  obtain ⟨z, e1, _, wf⟩ := DataW.trod_int hu h
  exact ⟨z, at_of e1, wf⟩
theorem str_at {n : Nat} {l : List Value} {k : Nat} {t : TypeId} {xs : List (DataW H × List MemPlace)} {i m : Nat} (hu : Try.prog.underlying t = some .string) (hcl : Try.prog.cellsOf t = 1) (hm : xs.length = m) (hi : i < m) (h : DataW.trod enc Try.prog W base spare held n t ((l.drop k).take (Try.prog.cellsOf t)) = xs[i]?) :
    ∃ s, l[k]? = some (.string s) ∧ s.size ≤ maxLen := by
  obtain ⟨y, hy⟩ := some_of hm hi
  rw [hy, hcl] at h
  obtain ⟨s, e1, _, hs⟩ := DataW.trod_string hu h
  exact ⟨s, at_of e1, hs⟩
/-- A part of a struct that is one cell. -/
theorem part_at {n : Nat} {l : List Value} {k : Nat} {t : TypeId} {xs : List (DataW H × List MemPlace)} {i m : Nat} (hcl : Try.prog.cellsOf t = 1) (hm : xs.length = m) (hi : i < m) (h : DataW.trod enc Try.prog W base spare held n t ((l.drop k).take (Try.prog.cellsOf t)) = xs[i]?) :
    ∃ y, DataW.trod enc Try.prog W base spare held n t ((l.drop k).take 1) = some y := by
  obtain ⟨y, hy⟩ := some_of hm hi
  rw [hy, hcl] at h
  exact ⟨y, h⟩
theorem w_all {P : Program} {e : TypeId} {d : DataW H} {m : Nat} : ∀ {l : List (DataW H)}, d ∈ l → m ∈ d.weights P e → m ∈ DataW.weightsAll P e l
  | x :: r, hd, hm => by
    rw [DataW.weightsAll, List.mem_append]
    rcases List.mem_cons.1 hd with e | e
    · subst e; exact .inl hm
    · exact .inr (w_all e hm)
/-- No part is too great. -/
def Lt (t : TypeId) (d : DataW H) : Prop := ∀ m ∈ d.weights Try.prog t, m ≤ reachBytes
theorem Lt.len {t e : TypeId} {es sp : List (DataW H)} (h : Lt t (.slice es sp)) (hu : Try.prog.underlying t = some (.slice e)) : (es.length + sp.length) * Try.prog.bytesOf e ≤ reachBytes := h _ (by simp [DataW.weights, hu])
theorem Lt.el {t e : TypeId} {es sp : List (DataW H)} (h : Lt t (.slice es sp)) (hu : Try.prog.underlying t = some (.slice e)) {d : DataW H} (hd : d ∈ es) : Lt e d := fun m hm => h m (by
  simp only [DataW.weights, hu, List.mem_cons, List.mem_append]
  exact .inr (.inl (w_all hd hm)))
theorem Lt.part {t : TypeId} {fs : Array Field} {ps : List (DataW H)} (h : Lt t (.agg ps)) (hu : Try.prog.underlying t = some (.struct fs)) {j : Nat} {f : Field} {d : DataW H} (hf : fs[j]? = some f) (hd : ps[j]? = some d) : Lt f.type d := fun m hm => h m (by
  simp only [DataW.weights, hu]
  exact DataW.weights_mem_each (j := j) (t := f.type) (d := d) (by rw [List.getElem?_map]; simp [hf]) hd m hm)
/-- A slice whose elements are of k cells: what is so of each element's cells. -/
theorem open_row {α : Type} {t e : TypeId} {k fuel : Nat} {cs : List Value} {x : DataW H × List MemPlace} (ht : Try.prog.underlying t = some (.slice e)) (hk : Try.prog.cellsOf e = k) (hk0 : 0 < k) (hby : 1 ≤ Try.prog.bytesOf e) (h : DataW.trod enc Try.prog W base (fun _ => true) held fuel t cs = some x) (hw : Lt t x.1) (enc1 : α → Array Value) (ok : α → Prop) (dflt : α)
    (hel : ∀ (n : Nat) (l : List Value) (y : DataW H × List MemPlace), DataW.trod enc Try.prog W base (fun _ => true) held n e l = some y → Lt e y.1 → ∃ a : α, ok a ∧ l = (enc1 a).toList) (hsz : ∀ a, (enc1 a).size = k) :
    ∃ (s : Sl) (xs : List α), cs = [.slice s.a s.n s.c] ∧ (∀ a ∈ xs, ok a) ∧ RdV W k s xs.length (flat enc1 xs) := by
  have hfl : ∀ (l : List α), (flat enc1 l).length = l.length * k := fun l => by
    induction l with
    | nil => simp [flat]
    | cons c r ih =>
      have : flat enc1 (c :: r) = (enc1 c).toList ++ flat enc1 r := rfl
      rw [this, List.length_append, ih, Array.length_toList, hsz, List.length_cons, Nat.add_mul]; omega
  rcases Go.Deep.open_slice ht h with ⟨hcs, _⟩ | ⟨a, len, cap, m, n, D, Pl, hcs, _, hl, hm, hmm, hx, hall⟩
  · exact ⟨⟨none, 0, 0⟩, [], hcs, (fun a ha => by cases ha), rfl, by simp [flat], by simp, .inl rfl⟩
  · have hmc : m = cap := by simpa using hmm
    rw [hx] at hw
    have hlen : len ≤ 140737488355328 := by
      have h1 := hw.len ht
      simp only [List.length_map, List.length_range] at h1
      have h2 : len * 1 ≤ (len + (m - len)) * Try.prog.bytesOf e := Nat.mul_le_mul (by omega) hby
      unfold reachBytes at h1
      omega
    have hpick : ∀ i, ∃ b : α, i < len → ok b ∧ ∀ j, j < k → W.cell? ((a.add (i * k)).add j) = (enc1 b)[j]? := fun i => by
      by_cases hi : i < len
      · obtain ⟨cs', hc, htr⟩ := hall i (by omega)
        rw [hk] at hc
        obtain ⟨b, hb, hl2⟩ := hel n cs' _ htr (hw.el ht (List.mem_map.2 ⟨i, List.mem_range.2 hi, rfl⟩))
        have hg := (World.cells?_some hc).2.2
        refine ⟨b, fun _ => ⟨hb, fun j hj => ?_⟩⟩
        rw [hg j hj, hl2]
        simp
      · exact ⟨dflt, fun h => absurd h hi⟩
    obtain ⟨g, hg⟩ := Classical.axiomOfChoice hpick
    refine ⟨⟨some a, len, cap⟩, (List.range len).map g, hcs, fun b hb => ?_, by simp, hfl _, by simpa using hlen, ?_⟩
    · obtain ⟨i, hi, rfl⟩ := List.mem_map.1 hb
      exact (hg i (List.mem_range.1 hi)).1
    · by_cases h0 : len = 0
      · exact .inl (by simp [h0])
      · right
        have first := (hg 0 (by omega)).2 0 hk0
        rw [Array.getElem?_eq_getElem (by rw [hsz]; exact hk0)] at first
        obtain ⟨b, off, spot⟩ := a
        have hspot : spot = none := by
          have := World.cell?_spot first
          simpa [Addr.add] using this
        subst hspot
        refine ⟨b, off, rfl, by have := World.block_lt_of_cell? W _ first; simpa [Go.WideShapes.add_plain] using this, fun j u hu => ?_⟩
        have hjl : j < len * k := by
          obtain ⟨h1, _⟩ := List.getElem?_eq_some_iff.1 hu
          rw [hfl] at h1
          simpa using h1
        have hq : j / k < len := Nat.div_lt_of_lt_mul (by rw [Nat.mul_comm]; exact hjl)
        have hr : j % k < k := Nat.mod_lt _ hk0
        have hjk : j = j / k * k + j % k := by rw [Nat.mul_comm]; exact (Nat.div_add_mod j k).symm
        have hfa := flat_at enc1 k hsz ((List.range len).map g) (j / k) (by simpa using hq) (j % k) hr
        rw [← hjk, hu] at hfa
        have hc := (hg (j / k) hq).2 (j % k) hr
        simp only [Go.WideShapes.add_plain] at hc
        rw [Nat.add_assoc, ← hjk] at hc
        rw [hc, hfa]
        simp
theorem flat_one {α : Type} (val : α → Value) (l : List α) : flat (fun x => #[val x]) l = l.map val := by
  induction l with
  | nil => rfl
  | cons a r ih =>
    have : flat (fun x => #[val x]) (a :: r) = [val a] ++ flat (fun x => #[val x]) r := rfl
    rw [this, ih]; rfl
theorem cells_int : Try.prog.cellsOf 3 = 1 := by kernel_rfl
theorem cells_u32 : Try.prog.cellsOf 22 = 1 := by kernel_rfl
theorem cells_str : Try.prog.cellsOf 9 = 1 := by kernel_rfl
theorem cells_bool : Try.prog.cellsOf 4 = 1 := by kernel_rfl
theorem cells_ints : Try.prog.cellsOf 25 = 1 := by kernel_rfl
theorem row_ints {fuel : Nat} {cs : List Value} {x : DataW H × List MemPlace} (h : DataW.trod enc Try.prog W base (fun _ => true) held fuel 25 cs = some x) (hw : Lt 25 x.1) : ∃ (s : Sl) (xs : List Int), cs = [.slice s.a s.n s.c] ∧ RdV W 1 s xs.length (xs.map (Value.int .i64)) := by
  obtain ⟨s, xs, h1, _, h3⟩ := open_row Try.underlying25 cells_int (by omega) (of_decide_eq_true (by kernel_rfl)) h hw (fun z : Int => #[Value.int .i64 z]) (fun _ => True) 0 (fun n l y hy _ => by
    obtain ⟨z, e1, _, _⟩ := DataW.trod_int Try.underlying3 hy
    exact ⟨z, trivial, e1⟩) (fun _ => rfl)
  rw [flat_one] at h3
  exact ⟨s, xs, h1, h3⟩
theorem row_u32s {fuel : Nat} {cs : List Value} {x : DataW H × List MemPlace} (h : DataW.trod enc Try.prog W base (fun _ => true) held fuel 24 cs = some x) (hw : Lt 24 x.1) : ∃ (s : Sl) (xs : List Int), cs = [.slice s.a s.n s.c] ∧ (∀ z ∈ xs, U32 z) ∧ RdV W 1 s xs.length (xs.map (Value.int .u32)) := by
  obtain ⟨s, xs, h1, h2, h3⟩ := open_row Try.underlying24 cells_u32 (by omega) (of_decide_eq_true (by kernel_rfl)) h hw (fun z : Int => #[Value.int .u32 z]) U32 0 (fun n l y hy _ => by
    obtain ⟨z, e1, _, e3⟩ := DataW.trod_int Try.underlying22 hy
    exact ⟨z, wfU e3, e1⟩) (fun _ => rfl)
  rw [flat_one] at h3
  exact ⟨s, xs, h1, h2, h3⟩
theorem row_strs {fuel : Nat} {cs : List Value} {x : DataW H × List MemPlace} (h : DataW.trod enc Try.prog W base (fun _ => true) held fuel 26 cs = some x) (hw : Lt 26 x.1) : ∃ (s : Sl) (xs : List ByteArray), cs = [.slice s.a s.n s.c] ∧ (∀ z ∈ xs, z.size ≤ 140737488355328) ∧ RdV W 1 s xs.length (xs.map Value.string) := by
  obtain ⟨s, xs, h1, h2, h3⟩ := open_row Try.underlying26 cells_str (by omega) (of_decide_eq_true (by kernel_rfl)) h hw (fun z : ByteArray => #[Value.string z]) (fun z => z.size ≤ 140737488355328) ⟨#[]⟩ (fun n l y hy hl => by
    obtain ⟨z, e1, e2, _⟩ := DataW.trod_string Try.underlying9 hy
    refine ⟨z, ?_, e1⟩
    have := hl z.data.toList.length (by rw [e2]; simp [DataW.weights])
    rw [Array.length_toList] at this
    unfold reachBytes at this
    show z.data.size ≤ _
    omega) (fun _ => rfl)
  rw [flat_one] at h3
  exact ⟨s, xs, h1, h2, h3⟩
theorem row_bools {fuel : Nat} {cs : List Value} {x : DataW H × List MemPlace} (h : DataW.trod enc Try.prog W base (fun _ => true) held fuel 27 cs = some x) (hw : Lt 27 x.1) : ∃ (s : Sl) (xs : List Bool), cs = [.slice s.a s.n s.c] ∧ RdV W 1 s xs.length (xs.map Value.bool) := by
  obtain ⟨s, xs, h1, _, h3⟩ := open_row Try.underlying27 cells_bool (by omega) (of_decide_eq_true (by kernel_rfl)) h hw (fun z : Bool => #[Value.bool z]) (fun _ => True) false (fun n l y hy _ => by
    obtain ⟨z, e1, _⟩ := DataW.trod_bool Try.underlying4 hy
    exact ⟨z, trivial, e1⟩) (fun _ => rfl)
  rw [flat_one] at h3
  exact ⟨s, xs, h1, h3⟩
/-- A struct's part that is one cell: what it is, and that it is not too great. -/
theorem field1 {t : TypeId} {fs : Array Field} {fuel : Nat} {l : List Value} {x : DataW H × List MemPlace} (hu : Try.prog.underlying t = some (.struct fs)) (h : DataW.trod enc Try.prog W base spare held fuel t l = some x) (hw : Lt t x.1) (j : Nat) (f : Field) (hf : fs[j]? = some f) (hc : Try.prog.cellsOf f.type = 1) :
    ∃ (y : DataW H × List MemPlace) (n : Nat), DataW.trod enc Try.prog W base spare held n f.type ((l.drop f.offset).take 1) = some y ∧ Lt f.type y.1 ∧ l.length = Try.prog.cellsOf t := by
  obtain ⟨xs, n, _, hx, hl, hlen, hfld⟩ := DataW.trod_struct hu h
  have hj : j < xs.length := by rw [hlen]; exact (Array.getElem?_eq_some_iff.1 hf).1
  have h1 := hfld j f hf
  rw [hc, List.getElem?_eq_getElem hj] at h1
  refine ⟨xs[j], n, h1, ?_, hl⟩
  rw [hx] at hw
  exact hw.part hu hf (by rw [List.getElem?_map, List.getElem?_eq_getElem hj]; rfl)
theorem list2 {l : List Value} {a b : Value} (hl : l.length = 2) (h0 : l[0]? = some a) (h1 : l[1]? = some b) : l = [a, b] := by
  match l, hl with
  | [x, y], _ => simp at h0 h1; rw [h0, h1]
theorem list3 {l : List Value} {a b c : Value} (hl : l.length = 3) (h0 : l[0]? = some a) (h1 : l[1]? = some b) (h2 : l[2]? = some c) : l = [a, b, c] := by
  match l, hl with
  | [x, y, z], _ => simp at h0 h1 h2; rw [h0, h1, h2]
theorem list4 {l : List Value} {a b c d : Value} (hl : l.length = 4) (h0 : l[0]? = some a) (h1 : l[1]? = some b) (h2 : l[2]? = some c) (h3 : l[3]? = some d) : l = [a, b, c, d] := by
  match l, hl with
  | [x, y, z, u], _ => simp at h0 h1 h2 h3; rw [h0, h1, h2, h3]
theorem cells_imp : Try.prog.cellsOf 54 = 2 := by kernel_rfl
theorem cells_fix : Try.prog.cellsOf 57 = 4 := by kernel_rfl
theorem cells_dsc : Try.prog.cellsOf 47 = 3 := by kernel_rfl
theorem str_small {n : Nat} {l : List Value} {y : DataW H × List MemPlace} (h : DataW.trod enc Try.prog W base spare held n 9 l = some y) (hl : Lt 9 y.1) : ∃ z : ByteArray, l = [.string z] ∧ z.size ≤ 140737488355328 := by
  obtain ⟨z, e1, e2, _⟩ := DataW.trod_string Try.underlying9 h
  refine ⟨z, e1, ?_⟩
  have := hl z.data.toList.length (by rw [e2]; simp [DataW.weights])
  rw [Array.length_toList] at this
  unfold reachBytes at this
  show z.data.size ≤ _
  omega
theorem row_imps {fuel : Nat} {cs : List Value} {x : DataW H × List MemPlace} (h : DataW.trod enc Try.prog W base (fun _ => true) held fuel 23 cs = some x) (hw : Lt 23 x.1) : ∃ (s : Sl) (xs : List (ByteArray × Int)), cs = [.slice s.a s.n s.c] ∧ (∀ z ∈ xs, z.1.size ≤ 140737488355328 ∧ U32 z.2) ∧ RdV W 2 s xs.length (flat iEnc xs) :=
  open_row Try.underlying23 cells_imp (by omega) (of_decide_eq_true (by kernel_rfl)) h hw iEnc (fun z => z.1.size ≤ 140737488355328 ∧ U32 z.2) (⟨#[]⟩, 0) (fun n l y hy hl => by
    obtain ⟨y0, n0, a1, a2, a3⟩ := field1 Try.underlying54 hy hl 0 _ rfl cells_str
    obtain ⟨y1, n1, b1, b2, _⟩ := field1 Try.underlying54 hy hl 1 _ rfl cells_u32
    obtain ⟨z, e1, e2⟩ := str_small a1 a2
    obtain ⟨k, f1, _, f3⟩ := DataW.trod_int Try.underlying22 b1
    exact ⟨(z, k), ⟨e2, wfU f3⟩, list2 (a3.trans cells_imp) (at_of e1) (at_of f1)⟩) (fun _ => rfl)
theorem row_fixs {fuel : Nat} {cs : List Value} {x : DataW H × List MemPlace} (h : DataW.trod enc Try.prog W base (fun _ => true) held fuel 29 cs = some x) (hw : Lt 29 x.1) : ∃ (s : Sl) (xs : List (Int × Int × Int × Int)), cs = [.slice s.a s.n s.c] ∧ (∀ z ∈ xs, True) ∧ RdV W 4 s xs.length (flat xEnc xs) :=
  open_row Try.underlying29 cells_fix (by omega) (of_decide_eq_true (by kernel_rfl)) h hw xEnc (fun _ => True) (0, 0, 0, 0) (fun n l y hy hl => by
    obtain ⟨y0, n0, a1, _, a3⟩ := field1 Try.underlying57 hy hl 0 _ rfl cells_int
    obtain ⟨y1, n1, b1, _, _⟩ := field1 Try.underlying57 hy hl 1 _ rfl cells_int
    obtain ⟨y2, n2, c1, _, _⟩ := field1 Try.underlying57 hy hl 2 _ rfl cells_int
    obtain ⟨y3, n3, d1, _, _⟩ := field1 Try.underlying57 hy hl 3 _ rfl cells_int
    obtain ⟨k0, e0, _, _⟩ := DataW.trod_int Try.underlying3 a1
    obtain ⟨k1, e1, _, _⟩ := DataW.trod_int Try.underlying3 b1
    obtain ⟨k2, e2, _, _⟩ := DataW.trod_int Try.underlying3 c1
    obtain ⟨k3, e3, _, _⟩ := DataW.trod_int Try.underlying3 d1
    exact ⟨(k0, k1, k2, k3), trivial, list4 (a3.trans cells_fix) (at_of e0) (at_of e1) (at_of e2) (at_of e3)⟩) (fun _ => rfl)
theorem row_dscs {fuel : Nat} {cs : List Value} {x : DataW H × List MemPlace} (h : DataW.trod enc Try.prog W base (fun _ => true) held fuel 28 cs = some x) (hw : Lt 28 x.1) : ∃ (s : Sl) (xs : List ((Int × Int × List Int) × Sl)), cs = [.slice s.a s.n s.c] ∧ (∀ p ∈ xs, RdV W 1 p.2 p.1.2.2.length (p.1.2.2.map (Value.int .i64))) ∧ RdV W 3 s xs.length (flat dEnc xs) :=
  open_row Try.underlying28 cells_dsc (by omega) (of_decide_eq_true (by kernel_rfl)) h hw dEnc (fun p => RdV W 1 p.2 p.1.2.2.length (p.1.2.2.map (Value.int .i64))) ((0, 0, []), ⟨none, 0, 0⟩) (fun n l y hy hl => by
    obtain ⟨y0, n0, a1, _, a3⟩ := field1 Try.underlying47 hy hl 0 _ rfl cells_int
    obtain ⟨y1, n1, b1, _, _⟩ := field1 Try.underlying47 hy hl 1 _ rfl cells_int
    obtain ⟨y2, n2, c1, c2, _⟩ := field1 Try.underlying47 hy hl 2 _ rfl cells_ints
    obtain ⟨k0, e0, _, _⟩ := DataW.trod_int Try.underlying3 a1
    obtain ⟨k1, e1, _, _⟩ := DataW.trod_int Try.underlying3 b1
    obtain ⟨s, ts, e2, e3⟩ := row_ints c1 c2
    exact ⟨((k0, k1, ts), s), e3, list3 (a3.trans cells_dsc) (at_of e0) (at_of e1) (at_of e2)⟩) (fun _ => rfl)
theorem cells_obj : Try.prog.cellsOf 31 = 13 := by kernel_rfl
theorem c_imps : Try.prog.cellsOf 23 = 1 := by kernel_rfl
theorem c_u32s : Try.prog.cellsOf 24 = 1 := by kernel_rfl
theorem c_strs : Try.prog.cellsOf 26 = 1 := by kernel_rfl
theorem c_bools : Try.prog.cellsOf 27 = 1 := by kernel_rfl
theorem c_dscs : Try.prog.cellsOf 28 = 1 := by kernel_rfl
theorem c_fixs : Try.prog.cellsOf 29 = 1 := by kernel_rfl
/-- An object that came in. -/
theorem obj_of {fuel : Nat} {l : List Value} {x : DataW H × List MemPlace} (h : DataW.trod enc Try.prog W base (fun _ => true) held fuel 31 l = some x) (hw : Lt 31 x.1) : ∃ (c : Oc) (o : Ob), l = c.cells.toList ∧ ObR W c o ∧ Words o := by
  have U := Try.underlying31
  obtain ⟨y0, n0, t0, w0, hl⟩ := field1 U h hw 0 _ rfl cells_str
  obtain ⟨y1, n1, t1, w1, _⟩ := field1 U h hw 1 _ rfl cells_u32
  obtain ⟨y2, n2, t2, w2, _⟩ := field1 U h hw 2 _ rfl c_imps
  obtain ⟨y3, n3, t3, w3, _⟩ := field1 U h hw 3 _ rfl c_u32s
  obtain ⟨y4, n4, t4, w4, _⟩ := field1 U h hw 4 _ rfl cells_ints
  obtain ⟨y5, n5, t5, w5, _⟩ := field1 U h hw 5 _ rfl c_strs
  obtain ⟨y6, n6, t6, w6, _⟩ := field1 U h hw 6 _ rfl c_bools
  obtain ⟨y7, n7, t7, w7, _⟩ := field1 U h hw 7 _ rfl cells_int
  obtain ⟨y8, n8, t8, w8, _⟩ := field1 U h hw 8 _ rfl cells_ints
  obtain ⟨y9, n9, t9, w9, _⟩ := field1 U h hw 9 _ rfl cells_ints
  obtain ⟨y10, n10, t10, w10, _⟩ := field1 U h hw 10 _ rfl c_strs
  obtain ⟨y11, n11, t11, w11, _⟩ := field1 U h hw 11 _ rfl c_dscs
  obtain ⟨y12, n12, t12, w12, _⟩ := field1 U h hw 12 _ rfl c_fixs
  obtain ⟨nm, e0, s0⟩ := str_small t0 w0
  obtain ⟨key, e1, _, f1⟩ := DataW.trod_int Try.underlying22 t1
  obtain ⟨s2, im, e2, g2, r2⟩ := row_imps t2 w2
  obtain ⟨s3, co, e3, g3, r3⟩ := row_u32s t3 w3
  obtain ⟨s4, pr, e4, r4⟩ := row_ints t4 w4
  obtain ⟨s5, na, e5, g5, r5⟩ := row_strs t5 w5
  obtain ⟨s6, ex, e6, r6⟩ := row_bools t6 w6
  obtain ⟨ini, e7, _, _⟩ := DataW.trod_int Try.underlying3 t7
  obtain ⟨s8, va, e8, r8⟩ := row_ints t8 w8
  obtain ⟨s9, sh, e9, r9⟩ := row_ints t9 w9
  obtain ⟨s10, st, e10, g10, r10⟩ := row_strs t10 w10
  obtain ⟨s11, ds, e11, g11, r11⟩ := row_dscs t11 w11
  obtain ⟨s12, fx, e12, _, r12⟩ := row_fixs t12 w12
  refine ⟨⟨nm, key, s2, s3, s4, s5, s6, ini, s8, s9, s10, s11, s12⟩, ⟨nm, key, im, co, pr, na, ex, ini, va, sh, st, ds.map (·.1), fx⟩, ?_, ⟨rfl, rfl, rfl, r2, r3, r4, r5, r6, r8, r9, r10, ⟨ds, rfl, r11, g11⟩, r12, s0, fun z hz => (g2 z hz).1, g5, g10⟩, ⟨wfU f1, fun z hz => (g2 z hz).2, g3⟩⟩
  have hl13 : l.length = 13 := hl.trans cells_obj
  have q0 : l[0]? = some (.string nm) := at_of e0
  have q1 : l[1]? = some (.int .u32 key) := at_of e1
  have q2 : l[2]? = some (.slice s2.a s2.n s2.c) := at_of e2
  have q3 : l[3]? = some (.slice s3.a s3.n s3.c) := at_of e3
  have q4 : l[4]? = some (.slice s4.a s4.n s4.c) := at_of e4
  have q5 : l[5]? = some (.slice s5.a s5.n s5.c) := at_of e5
  have q6 : l[6]? = some (.slice s6.a s6.n s6.c) := at_of e6
  have q7 : l[7]? = some (.int .i64 ini) := at_of e7
  have q8 : l[8]? = some (.slice s8.a s8.n s8.c) := at_of e8
  have q9 : l[9]? = some (.slice s9.a s9.n s9.c) := at_of e9
  have q10 : l[10]? = some (.slice s10.a s10.n s10.c) := at_of e10
  have q11 : l[11]? = some (.slice s11.a s11.n s11.c) := at_of e11
  have q12 : l[12]? = some (.slice s12.a s12.n s12.c) := at_of e12
  clear h t0 t1 t2 t3 t4 t5 t6 t7 t8 t9 t10 t11 t12 e0 e1 e2 e3 e4 e5 e6 e7 e8 e9 e10 e11 e12
  match l, hl13 with
  | [z0, z1, z2, z3, z4, z5, z6, z7, z8, z9, z10, z11, z12], _ =>
    simp only [List.getElem?_cons_zero, List.getElem?_cons_succ, Option.some.injEq] at q0 q1 q2 q3 q4 q5 q6 q7 q8 q9 q10 q11 q12
    rw [q0, q1, q2, q3, q4, q5, q6, q7, q8, q9, q10, q11, q12]
    rfl
end
end Go.Proofs.Ytmfdomabegaidaa

namespace Go.Proofs.Ytmfdomabegaidaa
open Go.ChangeShapes Go.WideShapes Go.ChangeAt Go.RowKit
set_option linter.unusedVariables false

/-- A row of elements of so many bytes is not too great; of a nil one nothing is kept. -/
def Rm (s : Sl) (by_ : Nat) : Prop := s.n * by_ ≤ 140737488351232 ∧ (s.a = none → s.n = 0 ∧ s.c = 0)
section
variable {H : Type} {enc : TypeId × Value → H} {W : World} {base : Nat} {spare : Nat → Bool} {held : Bool}
theorem open_room {t e : TypeId} {fuel by_ : Nat} {cs : List Value} {x : DataW H × List MemPlace} (ht : Try.prog.underlying t = some (.slice e)) (hby : Try.prog.bytesOf e = by_) (h : DataW.trod enc Try.prog W base (fun _ => true) held fuel t cs = some x) (hw : Lt t x.1) (s : Sl) (hcs : cs = [.slice s.a s.n s.c]) : Rm s by_ := by
  obtain ⟨sa, sn, sc⟩ := s
  rcases Go.Deep.open_slice ht h with ⟨hc2, _⟩ | ⟨a, len, cap, m, n, D, Pl, hc2, _, hl, hm, hmm, hx, hall⟩
  · rw [hcs] at hc2
    simp at hc2
    obtain ⟨rfl, rfl, rfl⟩ := hc2
    exact ⟨by simp, fun _ => ⟨rfl, rfl⟩⟩
  · rw [hcs] at hc2
    simp at hc2
    obtain ⟨rfl, rfl, rfl⟩ := hc2
    rw [hx] at hw
    have h1 := hw.len ht
    simp only [List.length_map, List.length_range] at h1
    rw [hby] at h1
    refine ⟨?_, fun e => by cases e⟩
    have h2 : sn * by_ ≤ (sn + (m - sn)) * by_ := Nat.mul_le_mul_right _ (by omega)
    unfold reachBytes at h1
    exact Nat.le_trans h2 (by omega)
theorem row_dscs2 {fuel : Nat} {cs : List Value} {x : DataW H × List MemPlace} (h : DataW.trod enc Try.prog W base (fun _ => true) held fuel 28 cs = some x) (hw : Lt 28 x.1) : ∃ (s : Sl) (xs : List ((Int × Int × List Int) × Sl)), cs = [.slice s.a s.n s.c] ∧ (∀ p ∈ xs, RdV W 1 p.2 p.1.2.2.length (p.1.2.2.map (Value.int .i64)) ∧ Rm p.2 8) ∧ RdV W 3 s xs.length (flat dEnc xs) :=
  open_row Try.underlying28 cells_dsc (by omega) (of_decide_eq_true (by kernel_rfl)) h hw dEnc (fun p => RdV W 1 p.2 p.1.2.2.length (p.1.2.2.map (Value.int .i64)) ∧ Rm p.2 8) ((0, 0, []), ⟨none, 0, 0⟩) (fun n l y hy hl => by
    obtain ⟨y0, n0, a1, _, a3⟩ := field1 Try.underlying47 hy hl 0 _ rfl cells_int
    obtain ⟨y1, n1, b1, _, _⟩ := field1 Try.underlying47 hy hl 1 _ rfl cells_int
    obtain ⟨y2, n2, c1, c2, _⟩ := field1 Try.underlying47 hy hl 2 _ rfl cells_ints
    obtain ⟨k0, e0, _, _⟩ := DataW.trod_int Try.underlying3 a1
    obtain ⟨k1, e1, _, _⟩ := DataW.trod_int Try.underlying3 b1
    obtain ⟨s, ts, e2, e3⟩ := row_ints c1 c2
    exact ⟨((k0, k1, ts), s), ⟨e3, open_room Try.underlying25 (by kernel_rfl) c1 c2 s e2⟩, list3 (a3.trans cells_dsc) (at_of e0) (at_of e1) (at_of e2)⟩) (fun _ => rfl)
/-- An object that came in, and how much room its rows take. -/
structure ObM (W : World) (c : Oc) (o : Ob) : Prop where
  rd : ObR W c o
  im : Rm c.im 24
  co : Rm c.co 4
  pr : Rm c.pr 8
  na : Rm c.na 16
  ex : Rm c.ex 1
  va : Rm c.va 8
  sh : Rm c.sh 8
  st : Rm c.st 16
  ds : Rm c.ds 40
  fx : Rm c.fx 32
  tg : ∃ l, l.map (·.1) = o.descs ∧ RdV W 3 c.ds l.length (flat dEnc l) ∧ ∀ p ∈ l, RdV W 1 p.2 p.1.2.2.length (p.1.2.2.map (Value.int .i64)) ∧ Rm p.2 8
theorem obj_of2 {fuel : Nat} {l : List Value} {x : DataW H × List MemPlace} (h : DataW.trod enc Try.prog W base (fun _ => true) held fuel 31 l = some x) (hw : Lt 31 x.1) : ∃ (c : Oc) (o : Ob), l = c.cells.toList ∧ ObM W c o ∧ Words o := by
  have U := Try.underlying31
  obtain ⟨y0, n0, t0, w0, hl⟩ := field1 U h hw 0 _ rfl cells_str
  obtain ⟨y1, n1, t1, w1, _⟩ := field1 U h hw 1 _ rfl cells_u32
  obtain ⟨y2, n2, t2, w2, _⟩ := field1 U h hw 2 _ rfl c_imps
  obtain ⟨y3, n3, t3, w3, _⟩ := field1 U h hw 3 _ rfl c_u32s
  obtain ⟨y4, n4, t4, w4, _⟩ := field1 U h hw 4 _ rfl cells_ints
  obtain ⟨y5, n5, t5, w5, _⟩ := field1 U h hw 5 _ rfl c_strs
  obtain ⟨y6, n6, t6, w6, _⟩ := field1 U h hw 6 _ rfl c_bools
  obtain ⟨y7, n7, t7, w7, _⟩ := field1 U h hw 7 _ rfl cells_int
  obtain ⟨y8, n8, t8, w8, _⟩ := field1 U h hw 8 _ rfl cells_ints
  obtain ⟨y9, n9, t9, w9, _⟩ := field1 U h hw 9 _ rfl cells_ints
  obtain ⟨y10, n10, t10, w10, _⟩ := field1 U h hw 10 _ rfl c_strs
  obtain ⟨y11, n11, t11, w11, _⟩ := field1 U h hw 11 _ rfl c_dscs
  obtain ⟨y12, n12, t12, w12, _⟩ := field1 U h hw 12 _ rfl c_fixs
  obtain ⟨nm, e0, s0⟩ := str_small t0 w0
  obtain ⟨key, e1, _, f1⟩ := DataW.trod_int Try.underlying22 t1
  obtain ⟨s2, im, e2, g2, r2⟩ := row_imps t2 w2
  obtain ⟨s3, co, e3, g3, r3⟩ := row_u32s t3 w3
  obtain ⟨s4, pr, e4, r4⟩ := row_ints t4 w4
  obtain ⟨s5, na, e5, g5, r5⟩ := row_strs t5 w5
  obtain ⟨s6, ex, e6, r6⟩ := row_bools t6 w6
  obtain ⟨ini, e7, _, _⟩ := DataW.trod_int Try.underlying3 t7
  obtain ⟨s8, va, e8, r8⟩ := row_ints t8 w8
  obtain ⟨s9, sh, e9, r9⟩ := row_ints t9 w9
  obtain ⟨s10, st, e10, g10, r10⟩ := row_strs t10 w10
  obtain ⟨s11, ds, e11, g11, r11⟩ := row_dscs2 t11 w11
  obtain ⟨s12, fx, e12, _, r12⟩ := row_fixs t12 w12
  refine ⟨⟨nm, key, s2, s3, s4, s5, s6, ini, s8, s9, s10, s11, s12⟩, ⟨nm, key, im, co, pr, na, ex, ini, va, sh, st, ds.map (·.1), fx⟩, ?_, ⟨⟨rfl, rfl, rfl, r2, r3, r4, r5, r6, r8, r9, r10, ⟨ds, rfl, r11, fun p hp => (g11 p hp).1⟩, r12, s0, fun z hz => (g2 z hz).1, g5, g10⟩, open_room Try.underlying23 (by kernel_rfl) t2 w2 s2 e2, open_room Try.underlying24 (by kernel_rfl) t3 w3 s3 e3, open_room Try.underlying25 (by kernel_rfl) t4 w4 s4 e4, open_room Try.underlying26 (by kernel_rfl) t5 w5 s5 e5, open_room Try.underlying27 (by kernel_rfl) t6 w6 s6 e6, open_room Try.underlying25 (by kernel_rfl) t8 w8 s8 e8, open_room Try.underlying25 (by kernel_rfl) t9 w9 s9 e9, open_room Try.underlying26 (by kernel_rfl) t10 w10 s10 e10, open_room Try.underlying28 (by kernel_rfl) t11 w11 s11 e11, open_room Try.underlying29 (by kernel_rfl) t12 w12 s12 e12, ⟨ds, rfl, r11, g11⟩⟩, ⟨wfU f1, fun z hz => (g2 z hz).2, g3⟩⟩
  have hl13 : l.length = 13 := hl.trans cells_obj
  have q0 : l[0]? = some (.string nm) := at_of e0
  have q1 : l[1]? = some (.int .u32 key) := at_of e1
  have q2 : l[2]? = some (.slice s2.a s2.n s2.c) := at_of e2
  have q3 : l[3]? = some (.slice s3.a s3.n s3.c) := at_of e3
  have q4 : l[4]? = some (.slice s4.a s4.n s4.c) := at_of e4
  have q5 : l[5]? = some (.slice s5.a s5.n s5.c) := at_of e5
  have q6 : l[6]? = some (.slice s6.a s6.n s6.c) := at_of e6
  have q7 : l[7]? = some (.int .i64 ini) := at_of e7
  have q8 : l[8]? = some (.slice s8.a s8.n s8.c) := at_of e8
  have q9 : l[9]? = some (.slice s9.a s9.n s9.c) := at_of e9
  have q10 : l[10]? = some (.slice s10.a s10.n s10.c) := at_of e10
  have q11 : l[11]? = some (.slice s11.a s11.n s11.c) := at_of e11
  have q12 : l[12]? = some (.slice s12.a s12.n s12.c) := at_of e12
  clear h t0 t1 t2 t3 t4 t5 t6 t7 t8 t9 t10 t11 t12 e0 e1 e2 e3 e4 e5 e6 e7 e8 e9 e10 e11 e12
  match l, hl13 with
  | [z0, z1, z2, z3, z4, z5, z6, z7, z8, z9, z10, z11, z12], _ =>
    simp only [List.getElem?_cons_zero, List.getElem?_cons_succ, Option.some.injEq] at q0 q1 q2 q3 q4 q5 q6 q7 q8 q9 q10 q11 q12
    rw [q0, q1, q2, q3, q4, q5, q6, q7, q8, q9, q10, q11, q12]
    rfl
end
end Go.Proofs.Ytmfdomabegaidaa

namespace Go.Proofs.Ytmfdomabegaidaa
set_option linter.unusedVariables false
set_option linter.unusedSimpArgs false
open Go.ChangeShapes Go.WideShapes Go.ChangeAt Go.RowKit

theorem info_imp2 : (Try.prog.info? 54).map (fun i => (i.zero, i.size, i.bytes)) = some (some (.agg #[.string ⟨#[]⟩, .int .u32 0]), 2, 24) := by kernel_rfl
theorem info_fix2 : (Try.prog.info? 57).map (fun i => (i.zero, i.size, i.bytes)) = some (some (.agg #[.int .i64 0, .int .i64 0, .int .i64 0, .int .i64 0]), 4, 32) := by kernel_rfl
theorem flat_one' {α : Type} {enc : α → Array Value} (h : ∀ x, ∀ u ∈ (enc x).toList, u.oneCell' = true) : ∀ (l : List α), ∀ u ∈ flat enc l, u.oneCell' = true
  | [], u, hu => by cases hu
  | x :: r, u, hu => by
    have : flat enc (x :: r) = (enc x).toList ++ flat enc r := rfl
    rw [this] at hu
    rcases List.mem_append.1 hu with h1 | h1
    · exact h x u h1
    · exact flat_one' h r u h1
/-- A row of a place more than there are is made, and they are put into it. -/
theorem copy_row (X : World) (t e : TypeId) (i : TypeInfo) (z : Value) (k by_ : Nat) (ht : Try.prog.underlying t = some (.slice e)) (hi : Try.prog.info? e = some i) (hz : i.zero = some z) (hsize : i.size = k) (hby : i.bytes = by_) (hzs : z.cells.size = k) (hk : 0 < k) (hb1 : 1 ≤ by_) (hb2 : by_ ≤ 1000) (s : Sl) (n : Nat) (cs : List Value) (hr : RdV X k s n cs) (h1 : ∀ u ∈ cs, u.oneCell' = true) (hm : Rm s by_) :
    ∃ (Y1 Y2 : World) (s' : Sl), (mkN t (.int .i64 0) (.int .i64 ((s.n : Int) + 1))).run Try.prog X = .ok (.slice (some ⟨X.heap.size, 0, none⟩) 0 (s.n + 1)) Y1 ∧ (appN #[t, t] t #[.slice (some ⟨X.heap.size, 0, none⟩) 0 (s.n + 1), .slice s.a s.n s.c]).run Try.prog Y1 = .ok (.slice s'.a s'.n s'.c) Y2 ∧ Y2.ownsRow X.heap.size e k (.slice s'.a s'.n s'.c) n cs ∧ Below X.heap.size X Y2 ∧ Below X.heap.size X Y1 := by
  have hn := hr.len
  have hle : n ≤ s.n * by_ := by rw [hn]; exact Nat.le_mul_of_pos_right _ (by omega)
  have hmul : n * by_ ≤ 140737488351232 := by rw [← hn]; exact hm.1
  have hn2 := hm.1
  have hmul1 : by_ * (n + 1) = n * by_ + by_ := by rw [Nat.mul_comm, Nat.succ_mul]
  obtain ⟨Y1, m1, m2, m3⟩ := run_make_own (P := Try.prog) X X.heap.size t e i z k ht hi hz hsize .i64 .i64 (n + 1) (by rw [hby, hmul1]; omega) (by unfold maxLen; omega) (Nat.le_refl _)
  have hb01 : Below X.heap.size X Y1 := ⟨m3.os, m3.tape, m3.output, m3.size, fun j hj => m3.block j hj (by simp)⟩
  have hm1 : (mkN t (.int .i64 0) (.int .i64 ((s.n : Int) + 1))).run Try.prog X = .ok (.slice (some ⟨X.heap.size, 0, none⟩) 0 (s.n + 1)) Y1 := by
    rw [hn]
    exact m1
  by_cases h0 : n = 0
  · have hcs : cs = [] := List.eq_nil_of_length_eq_zero (by rw [hr.all, h0, Nat.zero_mul])
    refine ⟨Y1, Y1, ⟨some ⟨X.heap.size, 0, none⟩, 0, n + 1⟩, hm1, ?_, by rw [hcs, h0]; rw [h0] at m2; exact m2, hb01, hb01⟩
    rw [hn, h0]
    unfold appN
    cases ha : s.a with
    | none => simp [Builtin.append_, run_underlying ht, sizeOf, typeInfo, hi, hsize, Builtin.lenOf, run_firstCells_none, storeCells, Addr.add_lit]
    | some ad => simp [Builtin.append_, run_underlying ht, sizeOf, typeInfo, hi, hsize, Builtin.lenOf, Builtin.firstCells, loadCells, loadCellsFrom, storeCells, Addr.add_lit]
  · obtain ⟨g, off, ha, hg, hc⟩ := (hr.below hb01).at_.resolve_left h0
    obtain ⟨v', Y2, r1, r2, r3, _⟩ := run_append_own (P := Try.prog) (w := Y1) X.heap.size t t e i z k by_ ht hi hz hsize hby hzs hk _ 0 [] m2 ⟨g, off, none⟩ n s.c cs hr.all (fun j u hu => by rw [Go.WideShapes.add_plain]; exact hc j u hu) h1 (by unfold maxLen; omega) (by rw [Nat.zero_add]; omega) m3.size
    obtain ⟨va, vn, vc, rfl⟩ := own_slice r2
    refine ⟨Y1, Y2, ⟨va, vn, vc⟩, hm1, ?_, ?_, hb01.trans ⟨r3.os, r3.tape, r3.output, r3.size, fun j hj => r3.block j (Nat.lt_of_lt_of_le hj hb01.size) (fun e => ?_)⟩, hb01⟩
    · rw [ha, hn]; exact r1
    · rw [Nat.zero_add, List.nil_append] at r2; exact r2
    · simp only [Value.ownBlock, Option.some.injEq] at e
      omega
/-- What stands while rows are copied: what came in, the answer's place, the copy. -/
structure CI (w X : World) (c c2 : Oc) (o : Ob) : Prop where
  q : ∀ Y, Tq X Y (fun k => k = w.heap.size + 1 ∨ k = w.heap.size + 1 + 1) → ObR Y c2 o
  b1 : OAt X w.heap.size c
  b2 : OAt X (w.heap.size + 1) Oc.zero
  b3 : OAt X (w.heap.size + 1 + 1) c2
  be : Below w.heap.size w X
theorem Tq.to_below {w X Y : World} {P : Nat → Prop} (h : Below w.heap.size w X) (t : Tq X Y P) (hp : ∀ k, k < w.heap.size → ¬ P k) : Below w.heap.size w Y := Below.of_tq h t hp
/-- A new row in the copy's place. -/
theorem CI.put {w X Y2 : World} {c c2 c3 : Oc} {o : Ob} {j : Nat} {v u : Value} (h : CI w X c c2 o) (hb : Below X.heap.size X Y2) (hc : c2.cells[j]? = some u) (hl : OAt (Y2.setCell ⟨w.heap.size + 1 + 1, j, none⟩ v) (w.heap.size + 1 + 1) c3) (hq : ∀ Y, Tq Y2 Y (fun k => k = w.heap.size + 1 ∨ k = w.heap.size + 1 + 1) → ObR Y c2 o → ObR Y c3 o) :
    Y2.cell? ⟨w.heap.size + 1 + 1, j, none⟩ = some u ∧ Y2.frozen? ⟨w.heap.size + 1 + 1, j, none⟩ = false ∧ Hid (CI w (Y2.setCell ⟨w.heap.size + 1 + 1, j, none⟩ v) c c3 o) := by
  have hY : OAt Y2 (w.heap.size + 1 + 1) c2 := (hb.block _ h.b3.lt).trans h.b3
  have t1 : Tq X Y2 (fun k => k = w.heap.size + 1 + 1) := Tq.below hb
  have t2 : Tq Y2 (Y2.setCell ⟨w.heap.size + 1 + 1, j, none⟩ v) (fun k => k = w.heap.size + 1 + 1) := Tq.set rfl
  have t3 := t1.trans t2
  refine ⟨(blk_cell hY j).trans hc, blk_fz hY j, ⟨fun Y t => hq Y ((t2.mono fun k _ e => .inr e).trans t) (h.q Y ((t3.mono fun k _ e => .inr e).trans t)), h.b1.tq t3 (by omega), h.b2.tq t3 (by omega), hl, Below.of_tq h.be t3 fun k hk => by omega⟩⟩
theorem CI.im {w X : World} {c c2 : Oc} {o : Ob} (h : CI w X c c2 o) (hr : ObR w c o) (hm : Rm c.im 24) : ∃ (Y1 Y2 : World) (s' : Sl), (mkN 23 (.int .i64 0) (.int .i64 ((c.im.n : Int) + 1))).run Try.prog X.drew = .ok (.slice (some ⟨X.heap.size, 0, none⟩) 0 (c.im.n + 1)) Y1 ∧ (appN #[23, 23] 23 #[.slice (some ⟨X.heap.size, 0, none⟩) 0 (c.im.n + 1), .slice c.im.a c.im.n c.im.c]).run Try.prog Y1 = .ok (.slice s'.a s'.n s'.c) Y2 ∧ Y2.cell? ⟨w.heap.size + 1 + 1, 2, none⟩ = some (.slice c2.im.a c2.im.n c2.im.c) ∧ Y2.frozen? ⟨w.heap.size + 1 + 1, 2, none⟩ = false ∧ Hid (Below X.heap.size X Y1 ∧ Below X.heap.size X Y2 ∧ CI w (Y2.setCell ⟨w.heap.size + 1 + 1, 2, none⟩ (.slice s'.a s'.n s'.c)) c { c2 with im := s' } o) := by
  obtain ⟨i0, hi0, hz0, hz1, hz2⟩ := info_parts info_imp2
  have hlen := hr.im.len
  have hmost := hr.im.most
  obtain ⟨Y1, Y2, s', r1, r2, r3, r4, r5⟩ := copy_row X.drew 23 54 i0 _ 2 24 Try.underlying23 hi0 hz0 hz1 hz2 rfl (by omega) (by omega) (by omega) c.im o.imps.length (flat iEnc o.imps) ((hr.below h.be).im.below (Below.refl _ _).drew) (flat_one' (fun x u hu => by simp [iEnc] at hu; rcases hu with rfl | rfl <;> rfl) _) hm
  have hb : Below X.heap.size X Y2 := ((Below.refl X.heap.size X).drew).trans r4
  have hb0 : Below X.heap.size X Y1 := ((Below.refl X.heap.size X).drew).trans r5
  have hxl : w.heap.size + 1 + 1 < X.heap.size := h.b3.lt
  have hl : OAt (Y2.setCell ⟨w.heap.size + 1 + 1, 2, none⟩ (.slice s'.a s'.n s'.c)) (w.heap.size + 1 + 1) { c2 with im := s' } := Go.Joins.block_setCell ((hb.block _ h.b3.lt).trans h.b3) _
  obtain ⟨p1, p2, p3⟩ := h.put (c3 := { c2 with im := s' }) (v := .slice s'.a s'.n s'.c) (j := 2) hb rfl hl (fun Y t hY => by
    have ho : Y.ownsRow X.heap.size 54 2 (.slice s'.a s'.n s'.c) o.imps.length (flat iEnc o.imps) := t.own r3 fun g hg => by have := own_lo r3 g hg; have hh : X.drew.heap.size = X.heap.size := rfl; show ¬ (g = _ ∨ g = _); omega
    have hrow : RdV Y 2 s' o.imps.length (flat iEnc o.imps) := own_rdv ho hmost
    exact ⟨hY.nm, hY.key, hY.ini, hrow, hY.co, hY.pr, hY.na, hY.ex, hY.va, hY.sh, hY.st, hY.ds, hY.fx, hY.sz⟩)
  exact ⟨Y1, Y2, s', r1, r2, p1, p2, hb0, hb, p3.out⟩
theorem CI.co {w X : World} {c c2 : Oc} {o : Ob} (h : CI w X c c2 o) (hr : ObR w c o) (hm : Rm c.co 4) : ∃ (Y1 Y2 : World) (s' : Sl), (mkN 24 (.int .i64 0) (.int .i64 ((c.co.n : Int) + 1))).run Try.prog X.drew = .ok (.slice (some ⟨X.heap.size, 0, none⟩) 0 (c.co.n + 1)) Y1 ∧ (appN #[24, 24] 24 #[.slice (some ⟨X.heap.size, 0, none⟩) 0 (c.co.n + 1), .slice c.co.a c.co.n c.co.c]).run Try.prog Y1 = .ok (.slice s'.a s'.n s'.c) Y2 ∧ Y2.cell? ⟨w.heap.size + 1 + 1, 3, none⟩ = some (.slice c2.co.a c2.co.n c2.co.c) ∧ Y2.frozen? ⟨w.heap.size + 1 + 1, 3, none⟩ = false ∧ Hid (Below X.heap.size X Y1 ∧ Below X.heap.size X Y2 ∧ CI w (Y2.setCell ⟨w.heap.size + 1 + 1, 3, none⟩ (.slice s'.a s'.n s'.c)) c { c2 with co := s' } o) := by
  obtain ⟨i0, hi0, hz0, hz1, hz2⟩ := info_parts info_u32
  have hlen := hr.co.len
  have hmost := hr.co.most
  obtain ⟨Y1, Y2, s', r1, r2, r3, r4, r5⟩ := copy_row X.drew 24 22 i0 _ 1 4 Try.underlying24 hi0 hz0 hz1 hz2 rfl (by omega) (by omega) (by omega) c.co o.code.length (o.code.map (Value.int .u32)) ((hr.below h.be).co.below (Below.refl _ _).drew) ((fun u hu => by obtain ⟨y, _, rfl⟩ := List.mem_map.1 hu; rfl)) hm
  have hb : Below X.heap.size X Y2 := ((Below.refl X.heap.size X).drew).trans r4
  have hb0 : Below X.heap.size X Y1 := ((Below.refl X.heap.size X).drew).trans r5
  have hxl : w.heap.size + 1 + 1 < X.heap.size := h.b3.lt
  have hl : OAt (Y2.setCell ⟨w.heap.size + 1 + 1, 3, none⟩ (.slice s'.a s'.n s'.c)) (w.heap.size + 1 + 1) { c2 with co := s' } := Go.Joins.block_setCell ((hb.block _ h.b3.lt).trans h.b3) _
  obtain ⟨p1, p2, p3⟩ := h.put (c3 := { c2 with co := s' }) (v := .slice s'.a s'.n s'.c) (j := 3) hb rfl hl (fun Y t hY => by
    have ho : Y.ownsRow X.heap.size 22 1 (.slice s'.a s'.n s'.c) o.code.length (o.code.map (Value.int .u32)) := t.own r3 fun g hg => by have := own_lo r3 g hg; have hh : X.drew.heap.size = X.heap.size := rfl; show ¬ (g = _ ∨ g = _); omega
    have hrow : RdV Y 1 s' o.code.length (o.code.map (Value.int .u32)) := own_rdv ho hmost
    exact ⟨hY.nm, hY.key, hY.ini, hY.im, hrow, hY.pr, hY.na, hY.ex, hY.va, hY.sh, hY.st, hY.ds, hY.fx, hY.sz⟩)
  exact ⟨Y1, Y2, s', r1, r2, p1, p2, hb0, hb, p3.out⟩
theorem CI.pr {w X : World} {c c2 : Oc} {o : Ob} (h : CI w X c c2 o) (hr : ObR w c o) (hm : Rm c.pr 8) : ∃ (Y1 Y2 : World) (s' : Sl), (mkN 25 (.int .i64 0) (.int .i64 ((c.pr.n : Int) + 1))).run Try.prog X.drew = .ok (.slice (some ⟨X.heap.size, 0, none⟩) 0 (c.pr.n + 1)) Y1 ∧ (appN #[25, 25] 25 #[.slice (some ⟨X.heap.size, 0, none⟩) 0 (c.pr.n + 1), .slice c.pr.a c.pr.n c.pr.c]).run Try.prog Y1 = .ok (.slice s'.a s'.n s'.c) Y2 ∧ Y2.cell? ⟨w.heap.size + 1 + 1, 4, none⟩ = some (.slice c2.pr.a c2.pr.n c2.pr.c) ∧ Y2.frozen? ⟨w.heap.size + 1 + 1, 4, none⟩ = false ∧ Hid (Below X.heap.size X Y1 ∧ Below X.heap.size X Y2 ∧ CI w (Y2.setCell ⟨w.heap.size + 1 + 1, 4, none⟩ (.slice s'.a s'.n s'.c)) c { c2 with pr := s' } o) := by
  obtain ⟨i0, hi0, hz0, hz1, hz2⟩ := info_parts info_int
  have hlen := hr.pr.len
  have hmost := hr.pr.most
  obtain ⟨Y1, Y2, s', r1, r2, r3, r4, r5⟩ := copy_row X.drew 25 3 i0 _ 1 8 Try.underlying25 hi0 hz0 hz1 hz2 rfl (by omega) (by omega) (by omega) c.pr o.procs.length (o.procs.map (Value.int .i64)) ((hr.below h.be).pr.below (Below.refl _ _).drew) ((fun u hu => by obtain ⟨y, _, rfl⟩ := List.mem_map.1 hu; rfl)) hm
  have hb : Below X.heap.size X Y2 := ((Below.refl X.heap.size X).drew).trans r4
  have hb0 : Below X.heap.size X Y1 := ((Below.refl X.heap.size X).drew).trans r5
  have hxl : w.heap.size + 1 + 1 < X.heap.size := h.b3.lt
  have hl : OAt (Y2.setCell ⟨w.heap.size + 1 + 1, 4, none⟩ (.slice s'.a s'.n s'.c)) (w.heap.size + 1 + 1) { c2 with pr := s' } := Go.Joins.block_setCell ((hb.block _ h.b3.lt).trans h.b3) _
  obtain ⟨p1, p2, p3⟩ := h.put (c3 := { c2 with pr := s' }) (v := .slice s'.a s'.n s'.c) (j := 4) hb rfl hl (fun Y t hY => by
    have ho : Y.ownsRow X.heap.size 3 1 (.slice s'.a s'.n s'.c) o.procs.length (o.procs.map (Value.int .i64)) := t.own r3 fun g hg => by have := own_lo r3 g hg; have hh : X.drew.heap.size = X.heap.size := rfl; show ¬ (g = _ ∨ g = _); omega
    have hrow : RdV Y 1 s' o.procs.length (o.procs.map (Value.int .i64)) := own_rdv ho hmost
    exact ⟨hY.nm, hY.key, hY.ini, hY.im, hY.co, hrow, hY.na, hY.ex, hY.va, hY.sh, hY.st, hY.ds, hY.fx, hY.sz⟩)
  exact ⟨Y1, Y2, s', r1, r2, p1, p2, hb0, hb, p3.out⟩
theorem CI.na {w X : World} {c c2 : Oc} {o : Ob} (h : CI w X c c2 o) (hr : ObR w c o) (hm : Rm c.na 16) : ∃ (Y1 Y2 : World) (s' : Sl), (mkN 26 (.int .i64 0) (.int .i64 ((c.na.n : Int) + 1))).run Try.prog X.drew = .ok (.slice (some ⟨X.heap.size, 0, none⟩) 0 (c.na.n + 1)) Y1 ∧ (appN #[26, 26] 26 #[.slice (some ⟨X.heap.size, 0, none⟩) 0 (c.na.n + 1), .slice c.na.a c.na.n c.na.c]).run Try.prog Y1 = .ok (.slice s'.a s'.n s'.c) Y2 ∧ Y2.cell? ⟨w.heap.size + 1 + 1, 5, none⟩ = some (.slice c2.na.a c2.na.n c2.na.c) ∧ Y2.frozen? ⟨w.heap.size + 1 + 1, 5, none⟩ = false ∧ Hid (Below X.heap.size X Y1 ∧ Below X.heap.size X Y2 ∧ CI w (Y2.setCell ⟨w.heap.size + 1 + 1, 5, none⟩ (.slice s'.a s'.n s'.c)) c { c2 with na := s' } o) := by
  obtain ⟨i0, hi0, hz0, hz1, hz2⟩ := info_parts info_str
  have hlen := hr.na.len
  have hmost := hr.na.most
  obtain ⟨Y1, Y2, s', r1, r2, r3, r4, r5⟩ := copy_row X.drew 26 9 i0 _ 1 16 Try.underlying26 hi0 hz0 hz1 hz2 rfl (by omega) (by omega) (by omega) c.na o.names.length (o.names.map Value.string) ((hr.below h.be).na.below (Below.refl _ _).drew) ((fun u hu => by obtain ⟨y, _, rfl⟩ := List.mem_map.1 hu; rfl)) hm
  have hb : Below X.heap.size X Y2 := ((Below.refl X.heap.size X).drew).trans r4
  have hb0 : Below X.heap.size X Y1 := ((Below.refl X.heap.size X).drew).trans r5
  have hxl : w.heap.size + 1 + 1 < X.heap.size := h.b3.lt
  have hl : OAt (Y2.setCell ⟨w.heap.size + 1 + 1, 5, none⟩ (.slice s'.a s'.n s'.c)) (w.heap.size + 1 + 1) { c2 with na := s' } := Go.Joins.block_setCell ((hb.block _ h.b3.lt).trans h.b3) _
  obtain ⟨p1, p2, p3⟩ := h.put (c3 := { c2 with na := s' }) (v := .slice s'.a s'.n s'.c) (j := 5) hb rfl hl (fun Y t hY => by
    have ho : Y.ownsRow X.heap.size 9 1 (.slice s'.a s'.n s'.c) o.names.length (o.names.map Value.string) := t.own r3 fun g hg => by have := own_lo r3 g hg; have hh : X.drew.heap.size = X.heap.size := rfl; show ¬ (g = _ ∨ g = _); omega
    have hrow : RdV Y 1 s' o.names.length (o.names.map Value.string) := own_rdv ho hmost
    exact ⟨hY.nm, hY.key, hY.ini, hY.im, hY.co, hY.pr, hrow, hY.ex, hY.va, hY.sh, hY.st, hY.ds, hY.fx, hY.sz⟩)
  exact ⟨Y1, Y2, s', r1, r2, p1, p2, hb0, hb, p3.out⟩
theorem CI.ex {w X : World} {c c2 : Oc} {o : Ob} (h : CI w X c c2 o) (hr : ObR w c o) (hm : Rm c.ex 1) : ∃ (Y1 Y2 : World) (s' : Sl), (mkN 27 (.int .i64 0) (.int .i64 ((c.ex.n : Int) + 1))).run Try.prog X.drew = .ok (.slice (some ⟨X.heap.size, 0, none⟩) 0 (c.ex.n + 1)) Y1 ∧ (appN #[27, 27] 27 #[.slice (some ⟨X.heap.size, 0, none⟩) 0 (c.ex.n + 1), .slice c.ex.a c.ex.n c.ex.c]).run Try.prog Y1 = .ok (.slice s'.a s'.n s'.c) Y2 ∧ Y2.cell? ⟨w.heap.size + 1 + 1, 6, none⟩ = some (.slice c2.ex.a c2.ex.n c2.ex.c) ∧ Y2.frozen? ⟨w.heap.size + 1 + 1, 6, none⟩ = false ∧ Hid (Below X.heap.size X Y1 ∧ Below X.heap.size X Y2 ∧ CI w (Y2.setCell ⟨w.heap.size + 1 + 1, 6, none⟩ (.slice s'.a s'.n s'.c)) c { c2 with ex := s' } o) := by
  obtain ⟨i0, hi0, hz0, hz1, hz2⟩ := info_parts info_bool
  have hlen := hr.ex.len
  have hmost := hr.ex.most
  obtain ⟨Y1, Y2, s', r1, r2, r3, r4, r5⟩ := copy_row X.drew 27 4 i0 _ 1 1 Try.underlying27 hi0 hz0 hz1 hz2 rfl (by omega) (by omega) (by omega) c.ex o.exps.length (o.exps.map Value.bool) ((hr.below h.be).ex.below (Below.refl _ _).drew) ((fun u hu => by obtain ⟨y, _, rfl⟩ := List.mem_map.1 hu; rfl)) hm
  have hb : Below X.heap.size X Y2 := ((Below.refl X.heap.size X).drew).trans r4
  have hb0 : Below X.heap.size X Y1 := ((Below.refl X.heap.size X).drew).trans r5
  have hxl : w.heap.size + 1 + 1 < X.heap.size := h.b3.lt
  have hl : OAt (Y2.setCell ⟨w.heap.size + 1 + 1, 6, none⟩ (.slice s'.a s'.n s'.c)) (w.heap.size + 1 + 1) { c2 with ex := s' } := Go.Joins.block_setCell ((hb.block _ h.b3.lt).trans h.b3) _
  obtain ⟨p1, p2, p3⟩ := h.put (c3 := { c2 with ex := s' }) (v := .slice s'.a s'.n s'.c) (j := 6) hb rfl hl (fun Y t hY => by
    have ho : Y.ownsRow X.heap.size 4 1 (.slice s'.a s'.n s'.c) o.exps.length (o.exps.map Value.bool) := t.own r3 fun g hg => by have := own_lo r3 g hg; have hh : X.drew.heap.size = X.heap.size := rfl; show ¬ (g = _ ∨ g = _); omega
    have hrow : RdV Y 1 s' o.exps.length (o.exps.map Value.bool) := own_rdv ho hmost
    exact ⟨hY.nm, hY.key, hY.ini, hY.im, hY.co, hY.pr, hY.na, hrow, hY.va, hY.sh, hY.st, hY.ds, hY.fx, hY.sz⟩)
  exact ⟨Y1, Y2, s', r1, r2, p1, p2, hb0, hb, p3.out⟩
theorem CI.va {w X : World} {c c2 : Oc} {o : Ob} (h : CI w X c c2 o) (hr : ObR w c o) (hm : Rm c.va 8) : ∃ (Y1 Y2 : World) (s' : Sl), (mkN 25 (.int .i64 0) (.int .i64 ((c.va.n : Int) + 1))).run Try.prog X.drew = .ok (.slice (some ⟨X.heap.size, 0, none⟩) 0 (c.va.n + 1)) Y1 ∧ (appN #[25, 25] 25 #[.slice (some ⟨X.heap.size, 0, none⟩) 0 (c.va.n + 1), .slice c.va.a c.va.n c.va.c]).run Try.prog Y1 = .ok (.slice s'.a s'.n s'.c) Y2 ∧ Y2.cell? ⟨w.heap.size + 1 + 1, 8, none⟩ = some (.slice c2.va.a c2.va.n c2.va.c) ∧ Y2.frozen? ⟨w.heap.size + 1 + 1, 8, none⟩ = false ∧ Hid (Below X.heap.size X Y1 ∧ Below X.heap.size X Y2 ∧ CI w (Y2.setCell ⟨w.heap.size + 1 + 1, 8, none⟩ (.slice s'.a s'.n s'.c)) c { c2 with va := s' } o) := by
  obtain ⟨i0, hi0, hz0, hz1, hz2⟩ := info_parts info_int
  have hlen := hr.va.len
  have hmost := hr.va.most
  obtain ⟨Y1, Y2, s', r1, r2, r3, r4, r5⟩ := copy_row X.drew 25 3 i0 _ 1 8 Try.underlying25 hi0 hz0 hz1 hz2 rfl (by omega) (by omega) (by omega) c.va o.vars.length (o.vars.map (Value.int .i64)) ((hr.below h.be).va.below (Below.refl _ _).drew) ((fun u hu => by obtain ⟨y, _, rfl⟩ := List.mem_map.1 hu; rfl)) hm
  have hb : Below X.heap.size X Y2 := ((Below.refl X.heap.size X).drew).trans r4
  have hb0 : Below X.heap.size X Y1 := ((Below.refl X.heap.size X).drew).trans r5
  have hxl : w.heap.size + 1 + 1 < X.heap.size := h.b3.lt
  have hl : OAt (Y2.setCell ⟨w.heap.size + 1 + 1, 8, none⟩ (.slice s'.a s'.n s'.c)) (w.heap.size + 1 + 1) { c2 with va := s' } := Go.Joins.block_setCell ((hb.block _ h.b3.lt).trans h.b3) _
  obtain ⟨p1, p2, p3⟩ := h.put (c3 := { c2 with va := s' }) (v := .slice s'.a s'.n s'.c) (j := 8) hb rfl hl (fun Y t hY => by
    have ho : Y.ownsRow X.heap.size 3 1 (.slice s'.a s'.n s'.c) o.vars.length (o.vars.map (Value.int .i64)) := t.own r3 fun g hg => by have := own_lo r3 g hg; have hh : X.drew.heap.size = X.heap.size := rfl; show ¬ (g = _ ∨ g = _); omega
    have hrow : RdV Y 1 s' o.vars.length (o.vars.map (Value.int .i64)) := own_rdv ho hmost
    exact ⟨hY.nm, hY.key, hY.ini, hY.im, hY.co, hY.pr, hY.na, hY.ex, hrow, hY.sh, hY.st, hY.ds, hY.fx, hY.sz⟩)
  exact ⟨Y1, Y2, s', r1, r2, p1, p2, hb0, hb, p3.out⟩
theorem CI.sh {w X : World} {c c2 : Oc} {o : Ob} (h : CI w X c c2 o) (hr : ObR w c o) (hm : Rm c.sh 8) : ∃ (Y1 Y2 : World) (s' : Sl), (mkN 25 (.int .i64 0) (.int .i64 ((c.sh.n : Int) + 1))).run Try.prog X.drew = .ok (.slice (some ⟨X.heap.size, 0, none⟩) 0 (c.sh.n + 1)) Y1 ∧ (appN #[25, 25] 25 #[.slice (some ⟨X.heap.size, 0, none⟩) 0 (c.sh.n + 1), .slice c.sh.a c.sh.n c.sh.c]).run Try.prog Y1 = .ok (.slice s'.a s'.n s'.c) Y2 ∧ Y2.cell? ⟨w.heap.size + 1 + 1, 9, none⟩ = some (.slice c2.sh.a c2.sh.n c2.sh.c) ∧ Y2.frozen? ⟨w.heap.size + 1 + 1, 9, none⟩ = false ∧ Hid (Below X.heap.size X Y1 ∧ Below X.heap.size X Y2 ∧ CI w (Y2.setCell ⟨w.heap.size + 1 + 1, 9, none⟩ (.slice s'.a s'.n s'.c)) c { c2 with sh := s' } o) := by
  obtain ⟨i0, hi0, hz0, hz1, hz2⟩ := info_parts info_int
  have hlen := hr.sh.len
  have hmost := hr.sh.most
  obtain ⟨Y1, Y2, s', r1, r2, r3, r4, r5⟩ := copy_row X.drew 25 3 i0 _ 1 8 Try.underlying25 hi0 hz0 hz1 hz2 rfl (by omega) (by omega) (by omega) c.sh o.shown.length (o.shown.map (Value.int .i64)) ((hr.below h.be).sh.below (Below.refl _ _).drew) ((fun u hu => by obtain ⟨y, _, rfl⟩ := List.mem_map.1 hu; rfl)) hm
  have hb : Below X.heap.size X Y2 := ((Below.refl X.heap.size X).drew).trans r4
  have hb0 : Below X.heap.size X Y1 := ((Below.refl X.heap.size X).drew).trans r5
  have hxl : w.heap.size + 1 + 1 < X.heap.size := h.b3.lt
  have hl : OAt (Y2.setCell ⟨w.heap.size + 1 + 1, 9, none⟩ (.slice s'.a s'.n s'.c)) (w.heap.size + 1 + 1) { c2 with sh := s' } := Go.Joins.block_setCell ((hb.block _ h.b3.lt).trans h.b3) _
  obtain ⟨p1, p2, p3⟩ := h.put (c3 := { c2 with sh := s' }) (v := .slice s'.a s'.n s'.c) (j := 9) hb rfl hl (fun Y t hY => by
    have ho : Y.ownsRow X.heap.size 3 1 (.slice s'.a s'.n s'.c) o.shown.length (o.shown.map (Value.int .i64)) := t.own r3 fun g hg => by have := own_lo r3 g hg; have hh : X.drew.heap.size = X.heap.size := rfl; show ¬ (g = _ ∨ g = _); omega
    have hrow : RdV Y 1 s' o.shown.length (o.shown.map (Value.int .i64)) := own_rdv ho hmost
    exact ⟨hY.nm, hY.key, hY.ini, hY.im, hY.co, hY.pr, hY.na, hY.ex, hY.va, hrow, hY.st, hY.ds, hY.fx, hY.sz⟩)
  exact ⟨Y1, Y2, s', r1, r2, p1, p2, hb0, hb, p3.out⟩
theorem CI.st {w X : World} {c c2 : Oc} {o : Ob} (h : CI w X c c2 o) (hr : ObR w c o) (hm : Rm c.st 16) : ∃ (Y1 Y2 : World) (s' : Sl), (mkN 26 (.int .i64 0) (.int .i64 ((c.st.n : Int) + 1))).run Try.prog X.drew = .ok (.slice (some ⟨X.heap.size, 0, none⟩) 0 (c.st.n + 1)) Y1 ∧ (appN #[26, 26] 26 #[.slice (some ⟨X.heap.size, 0, none⟩) 0 (c.st.n + 1), .slice c.st.a c.st.n c.st.c]).run Try.prog Y1 = .ok (.slice s'.a s'.n s'.c) Y2 ∧ Y2.cell? ⟨w.heap.size + 1 + 1, 10, none⟩ = some (.slice c2.st.a c2.st.n c2.st.c) ∧ Y2.frozen? ⟨w.heap.size + 1 + 1, 10, none⟩ = false ∧ Hid (Below X.heap.size X Y1 ∧ Below X.heap.size X Y2 ∧ CI w (Y2.setCell ⟨w.heap.size + 1 + 1, 10, none⟩ (.slice s'.a s'.n s'.c)) c { c2 with st := s' } o) := by
  obtain ⟨i0, hi0, hz0, hz1, hz2⟩ := info_parts info_str
  have hlen := hr.st.len
  have hmost := hr.st.most
  obtain ⟨Y1, Y2, s', r1, r2, r3, r4, r5⟩ := copy_row X.drew 26 9 i0 _ 1 16 Try.underlying26 hi0 hz0 hz1 hz2 rfl (by omega) (by omega) (by omega) c.st o.strs.length (o.strs.map Value.string) ((hr.below h.be).st.below (Below.refl _ _).drew) ((fun u hu => by obtain ⟨y, _, rfl⟩ := List.mem_map.1 hu; rfl)) hm
  have hb : Below X.heap.size X Y2 := ((Below.refl X.heap.size X).drew).trans r4
  have hb0 : Below X.heap.size X Y1 := ((Below.refl X.heap.size X).drew).trans r5
  have hxl : w.heap.size + 1 + 1 < X.heap.size := h.b3.lt
  have hl : OAt (Y2.setCell ⟨w.heap.size + 1 + 1, 10, none⟩ (.slice s'.a s'.n s'.c)) (w.heap.size + 1 + 1) { c2 with st := s' } := Go.Joins.block_setCell ((hb.block _ h.b3.lt).trans h.b3) _
  obtain ⟨p1, p2, p3⟩ := h.put (c3 := { c2 with st := s' }) (v := .slice s'.a s'.n s'.c) (j := 10) hb rfl hl (fun Y t hY => by
    have ho : Y.ownsRow X.heap.size 9 1 (.slice s'.a s'.n s'.c) o.strs.length (o.strs.map Value.string) := t.own r3 fun g hg => by have := own_lo r3 g hg; have hh : X.drew.heap.size = X.heap.size := rfl; show ¬ (g = _ ∨ g = _); omega
    have hrow : RdV Y 1 s' o.strs.length (o.strs.map Value.string) := own_rdv ho hmost
    exact ⟨hY.nm, hY.key, hY.ini, hY.im, hY.co, hY.pr, hY.na, hY.ex, hY.va, hY.sh, hrow, hY.ds, hY.fx, hY.sz⟩)
  exact ⟨Y1, Y2, s', r1, r2, p1, p2, hb0, hb, p3.out⟩
theorem CI.fx {w X : World} {c c2 : Oc} {o : Ob} (h : CI w X c c2 o) (hr : ObR w c o) (hm : Rm c.fx 32) : ∃ (Y1 Y2 : World) (s' : Sl), (mkN 29 (.int .i64 0) (.int .i64 ((c.fx.n : Int) + 1))).run Try.prog X.drew = .ok (.slice (some ⟨X.heap.size, 0, none⟩) 0 (c.fx.n + 1)) Y1 ∧ (appN #[29, 29] 29 #[.slice (some ⟨X.heap.size, 0, none⟩) 0 (c.fx.n + 1), .slice c.fx.a c.fx.n c.fx.c]).run Try.prog Y1 = .ok (.slice s'.a s'.n s'.c) Y2 ∧ Y2.cell? ⟨w.heap.size + 1 + 1, 12, none⟩ = some (.slice c2.fx.a c2.fx.n c2.fx.c) ∧ Y2.frozen? ⟨w.heap.size + 1 + 1, 12, none⟩ = false ∧ Hid (Below X.heap.size X Y1 ∧ Below X.heap.size X Y2 ∧ CI w (Y2.setCell ⟨w.heap.size + 1 + 1, 12, none⟩ (.slice s'.a s'.n s'.c)) c { c2 with fx := s' } o) := by
  obtain ⟨i0, hi0, hz0, hz1, hz2⟩ := info_parts info_fix2
  have hlen := hr.fx.len
  have hmost := hr.fx.most
  obtain ⟨Y1, Y2, s', r1, r2, r3, r4, r5⟩ := copy_row X.drew 29 57 i0 _ 4 32 Try.underlying29 hi0 hz0 hz1 hz2 rfl (by omega) (by omega) (by omega) c.fx o.fixes.length (flat xEnc o.fixes) ((hr.below h.be).fx.below (Below.refl _ _).drew) (flat_one' (fun x u hu => by simp [xEnc] at hu; rcases hu with rfl | rfl | rfl | rfl <;> rfl) _) hm
  have hb : Below X.heap.size X Y2 := ((Below.refl X.heap.size X).drew).trans r4
  have hb0 : Below X.heap.size X Y1 := ((Below.refl X.heap.size X).drew).trans r5
  have hxl : w.heap.size + 1 + 1 < X.heap.size := h.b3.lt
  have hl : OAt (Y2.setCell ⟨w.heap.size + 1 + 1, 12, none⟩ (.slice s'.a s'.n s'.c)) (w.heap.size + 1 + 1) { c2 with fx := s' } := Go.Joins.block_setCell ((hb.block _ h.b3.lt).trans h.b3) _
  obtain ⟨p1, p2, p3⟩ := h.put (c3 := { c2 with fx := s' }) (v := .slice s'.a s'.n s'.c) (j := 12) hb rfl hl (fun Y t hY => by
    have ho : Y.ownsRow X.heap.size 57 4 (.slice s'.a s'.n s'.c) o.fixes.length (flat xEnc o.fixes) := t.own r3 fun g hg => by have := own_lo r3 g hg; have hh : X.drew.heap.size = X.heap.size := rfl; show ¬ (g = _ ∨ g = _); omega
    have hrow : RdV Y 4 s' o.fixes.length (flat xEnc o.fixes) := own_rdv ho hmost
    exact ⟨hY.nm, hY.key, hY.ini, hY.im, hY.co, hY.pr, hY.na, hY.ex, hY.va, hY.sh, hY.st, hY.ds, hrow, hY.sz⟩)
  exact ⟨Y1, Y2, s', r1, r2, p1, p2, hb0, hb, p3.out⟩
end Go.Proofs.Ytmfdomabegaidaa

namespace Go.Proofs.Ytmfdomabegaidaa
set_option linter.unusedVariables false
set_option linter.unusedSimpArgs false
open Go.ChangeShapes Go.WideShapes Go.ChangeAt Go.RowKit

def storeD (a : Addr) (v : Value) : Sem Unit := storeVar 47 a v
theorem storeD_seal (a : Addr) (v : Value) : storeVar 47 a v = storeD a v := rfl
theorem loadD_at {X : World} {g off : Nat} {a b c : Value} (h0 : X.cell? ⟨g, off, none⟩ = some a) (h1 : X.cell? ⟨g, off + 1, none⟩ = some b) (h2 : X.cell? ⟨g, off + 2, none⟩ = some c) : (loadD ⟨g, off, none⟩).run Try.prog X = .ok (.agg #[a, b, c]) X := by
  unfold loadD
  go_simp
theorem info_dsc2 : (Try.prog.info? 47).map (fun i => (i.zero, i.size, i.bytes)) = some (some (.agg #[.int .i64 0, .int .i64 0, .slice none 0 0]), 3, 40) := by kernel_rfl
/-- While descriptors are copied into the row in block G. -/
structure CL (w X : World) (c c2 : Oc) (o : Ob) (G n : Nat) (l : List ((Int × Int × List Int) × Sl)) : Prop where
  q : ∀ Y, Tq X Y (fun k => k = w.heap.size + 1 ∨ k = w.heap.size + 1 + 1 ∨ k = G) → ObR Y { c2 with ds := c.ds } o
  b1 : OAt X w.heap.size c
  b2 : OAt X (w.heap.size + 1) Oc.zero
  b3 : OAt X (w.heap.size + 1 + 1) c2
  be : Below w.heap.size w X
  hd : c2.ds = ⟨some ⟨G, 0, none⟩, n, n⟩
  lt : w.heap.size + 1 + 1 < G
  cl : ∃ cur : Array Value, X.heap[G]? = some (.cells cur 47 (0, 0)) ∧ cur.size = n * 3 ∧ ∀ j (hj : j < l.length) m, m < 3 → cur[j * 3 + m]? = (dEnc l[j])[m]?
  ml : l.length ≤ n
  mp : l.map (·.1) = o.descs.take l.length
  tg : ∀ p ∈ l, ∀ Y, Tq X Y (fun k => k = w.heap.size + 1 ∨ k = w.heap.size + 1 + 1 ∨ k = G) → RdV Y 1 p.2 p.1.2.2.length (p.1.2.2.map (Value.int .i64))
theorem CL.gl {w X : World} {c c2 : Oc} {o : Ob} {G n : Nat} {l : List ((Int × Int × List Int) × Sl)} (h : CL w X c c2 o G n l) : G < X.heap.size := by
  obtain ⟨cur, h1, _⟩ := h.cl
  exact (Array.getElem?_eq_some_iff.1 h1).1
/-- The new row, of noughts. -/
theorem CI.mkds {w X : World} {c c2 : Oc} {o : Ob} (h : CI w X c c2 o) (hr : ObR w c o) (hm : Rm c.ds 40) (h2 : c2.ds = c.ds) : ∃ Y1, (mkN 28 (.int .i64 (c.ds.n : Int)) (.int .i64 (c.ds.n : Int))).run Try.prog X = .ok (.slice (some ⟨X.heap.size, 0, none⟩) c.ds.n c.ds.n) Y1 ∧ Y1.cell? ⟨w.heap.size + 1 + 1, 11, none⟩ = some (.slice c2.ds.a c2.ds.n c2.ds.c) ∧ Y1.frozen? ⟨w.heap.size + 1 + 1, 11, none⟩ = false ∧ Hid (CL w (Y1.setCell ⟨w.heap.size + 1 + 1, 11, none⟩ (.slice (some ⟨X.heap.size, 0, none⟩) c.ds.n c.ds.n)) c { c2 with ds := ⟨some ⟨X.heap.size, 0, none⟩, c.ds.n, c.ds.n⟩ } o X.heap.size c.ds.n []) := by
  obtain ⟨i0, hi0, hz0, hz1, hz2⟩ := info_parts info_dsc2
  have hm1 := hm.1
  have hr1 := run_make (P := Try.prog) X 28 47 i0 _ Try.underlying28 hi0 hz0 .i64 .i64 (c.ds.n : Int) (c.ds.n : Int) (by omega) (by omega) (by rw [hz2]; omega) (by omega)
  rw [Int.toNat_natCast, hz1] at hr1
  obtain ⟨Y1, hY1⟩ : ∃ Y1, Y1 = X.alloc (.cells (madeCells (Value.agg #[.int .i64 0, .int .i64 0, .slice none 0 0]).cells (c.ds.n * 3)) 47) := ⟨_, rfl⟩
  rw [← hY1] at hr1
  have hb : Below X.heap.size X Y1 := by rw [hY1]; exact (Below.refl _ _).alloc (Nat.le_refl _) _
  have hnew : Y1.heap[X.heap.size]? = some (.cells (madeCells (Value.agg #[.int .i64 0, .int .i64 0, .slice none 0 0]).cells (c.ds.n * 3)) 47 (0, 0)) := by rw [hY1]; exact blk_new _ _
  have hx : w.heap.size + 1 + 1 < X.heap.size := h.b3.lt
  have hY : OAt Y1 (w.heap.size + 1 + 1) c2 := (hb.block _ h.b3.lt).trans h.b3
  have t1 : Tq X Y1 (fun k => k = w.heap.size + 1 + 1) := Tq.below hb
  have t2 : Tq Y1 (Y1.setCell ⟨w.heap.size + 1 + 1, 11, none⟩ (.slice (some ⟨X.heap.size, 0, none⟩) c.ds.n c.ds.n)) (fun k => k = w.heap.size + 1 + 1) := Tq.set rfl
  have t3 := t1.trans t2
  refine ⟨Y1, hr1, blk_cell hY 11, blk_fz hY 11, ⟨fun Y t => ?_, h.b1.tq t3 (by omega), h.b2.tq t3 (by omega), Go.Joins.block_setCell hY _, Below.of_tq h.be t3 (fun k hk => by omega), rfl, hx, ⟨_, (t2.blk X.heap.size (Array.getElem?_eq_some_iff.1 hnew).1 (by omega)).trans hnew, size_madeCells _ _, fun j hj => by simp at hj⟩, by simp, by simp, fun p hp => by cases hp⟩⟩
  have tt : Tq X Y (fun k => k = w.heap.size + 1 ∨ k = w.heap.size + 1 + 1) := by
    have := t3.mono (Q := fun k => k = w.heap.size + 1 ∨ k = w.heap.size + 1 + 1 ∨ k = X.heap.size) (fun k _ e => .inr (.inl e))
    refine (this.trans t).mono fun k hk e => ?_
    rcases e with e | e | e
    · exact .inl e
    · exact .inr e
    · omega
  have := h.q Y tt
  rw [← h2]
  exact this
set_option maxRecDepth 20000 in
/-- One more: the descriptor, then its tags in a row of their own. -/
theorem CL.next {w X : World} {c c2 : Oc} {o : Ob} {G n : Nat} {l : List ((Int × Int × List Int) × Sl)} (h : CL w X c c2 o G n l) (p : (Int × Int × List Int) × Sl) (hr : RdV w 1 p.2 p.1.2.2.length (p.1.2.2.map (Value.int .i64))) (hm : Rm p.2 8) (hi : l.length < n) (hp : o.descs[l.length]? = some p.1) :
    ∃ (Z1 Y1 Y2 : World) (s' : Sl), (storeD ⟨G, l.length * 3, none⟩ (.agg (dEnc p))).run Try.prog X.drew = .ok () Z1 ∧ (mkN 25 (.int .i64 0) (.int .i64 ((p.2.n : Int) + 1))).run Try.prog Z1.drew = .ok (.slice (some ⟨Z1.heap.size, 0, none⟩) 0 (p.2.n + 1)) Y1 ∧ (appN #[25, 25] 25 #[.slice (some ⟨Z1.heap.size, 0, none⟩) 0 (p.2.n + 1), .slice p.2.a p.2.n p.2.c]).run Try.prog Y1 = .ok (.slice s'.a s'.n s'.c) Y2 ∧ (∃ u, Y2.cell? ⟨G, l.length * 3 + 2, none⟩ = some u) ∧ Y2.frozen? ⟨G, l.length * 3 + 2, none⟩ = false ∧ Hid (Tq X Z1 (fun k => k = G) ∧ Tq X Y1 (fun k => k = G) ∧ Tq X Y2 (fun k => k = G) ∧ CL w (Y2.setCell ⟨G, l.length * 3 + 2, none⟩ (.slice s'.a s'.n s'.c)) c c2 o G n (l ++ [(p.1, s')])) := by
  obtain ⟨i0, hi0, hz0, hz1, hz2⟩ := info_parts info_int
  obtain ⟨cur, k1, k2, k3⟩ := h.cl
  have hgl := h.gl
  have hlt := h.lt
  have hone : (dEnc p).all (·.oneCell') = true := by simp [dEnc, Value.oneCell']
  have hX : X.drew.heap[G]? = some (.cells cur 47 (0, 0)) := k1
  have hst := run_storeVar_mid (P := Try.prog) X.drew G (l.length * 3) 47 (dEnc p) (fun j hj => by
    have hj2 : j < 3 := hj
    have hb : l.length * 3 + j < cur.size := by rw [k2]; omega
    rw [blk_cell hX]
    exact ⟨by rw [Array.getElem?_eq_getElem hb]; rfl, blk_fz hX _⟩) (by kernel_rfl) hone
  have hput := cells_put (dEnc p).toList (l.length * 3) X.drew cur hX
  obtain ⟨Z1, hZ1⟩ : ∃ Z1, Z1 = X.drew.setCells G (l.length * 3) (dEnc p).toList := ⟨_, rfl⟩
  rw [← hZ1] at hst hput
  have tz : Tq X Z1 (fun k => k = G) := (Tq.below (P := fun k => k = G) (Below.refl X.heap.size X).drew).trans (by rw [hZ1]; exact tq_cells _ _ _)
  have bz : Below w.heap.size w Z1 := Below.of_tq h.be tz fun k hk => by omega
  obtain ⟨Y1, Y2, s', r1, r2, r3, r4, r5⟩ := copy_row Z1.drew 25 3 i0 _ 1 8 Try.underlying25 hi0 hz0 hz1 hz2 rfl (by omega) (by omega) (by omega) p.2 p.1.2.2.length (p.1.2.2.map (Value.int .i64)) ((hr.below bz).below (Below.refl _ _).drew) (fun u hu => by obtain ⟨y, _, rfl⟩ := List.mem_map.1 hu; rfl) hm
  have b1 : Below Z1.heap.size Z1 Y1 := ((Below.refl Z1.heap.size Z1).drew).trans r5
  have b2 : Below Z1.heap.size Z1 Y2 := ((Below.refl Z1.heap.size Z1).drew).trans r4
  have ty1 : Tq X Y1 (fun k => k = G) := tz.trans (Tq.below b1)
  have ty2 : Tq X Y2 (fun k => k = G) := tz.trans (Tq.below b2)
  have hgz : G < Z1.heap.size := Nat.lt_of_lt_of_le hgl tz.size
  obtain ⟨cur1, hc1⟩ : ∃ cur1, cur1 = ((cur.setIfInBounds (l.length * 3) (.int .i64 p.1.1)).setIfInBounds (l.length * 3 + 1) (.int .i64 p.1.2.1)).setIfInBounds (l.length * 3 + 1 + 1) (.slice p.2.a p.2.n p.2.c) := ⟨_, rfl⟩
  have hput1 : Z1.heap[G]? = some (.cells cur1 47 (0, 0)) := by rw [hc1]; exact hput
  have hY2 : Y2.heap[G]? = some (.cells cur1 47 (0, 0)) := (b2.block G hgz).trans hput1
  have hsz1 : cur1.size = n * 3 := by rw [hc1]; simp [k2]
  have tf : Tq X (Y2.setCell ⟨G, l.length * 3 + 2, none⟩ (.slice s'.a s'.n s'.c)) (fun k => k = G) := ty2.trans (Tq.set rfl)
  have tf2 : Tq X (Y2.setCell ⟨G, l.length * 3 + 2, none⟩ (.slice s'.a s'.n s'.c)) (fun k => k = w.heap.size + 1 ∨ k = w.heap.size + 1 + 1 ∨ k = G) := tf.mono fun k _ e => .inr (.inr e)
  have hlast : l.length * 3 + 2 < cur1.size := by rw [hsz1]; omega
  refine ⟨Z1, Y1, Y2, s', hst, r1, r2, ⟨cur1[l.length * 3 + 2], by rw [blk_cell hY2, Array.getElem?_eq_getElem hlast]⟩, blk_fz hY2 _, tz, ty1, ty2, ⟨fun Y t => h.q Y (tf2.trans t), h.b1.tq tf (by omega), h.b2.tq tf (by omega), h.b3.tq tf (by omega), Below.of_tq h.be tf (fun k hk => by omega), h.hd, h.lt, ⟨cur1.setIfInBounds (l.length * 3 + 2) (.slice s'.a s'.n s'.c), Go.Joins.block_setCell hY2 _, by simp [hsz1], fun j hj m hm3 => ?_⟩, by simp; omega, ?_, fun p2 hp2 Y t => ?_⟩⟩
  · have hjl : j < l.length + 1 := by simpa using hj
    by_cases hjl2 : j < l.length
    · rw [List.getElem_append_left hjl2, ← k3 j hjl2 m hm3, hc1]
      have q1 : l.length * 3 + 2 ≠ j * 3 + m := by omega
      have q2 : l.length * 3 + 1 + 1 ≠ j * 3 + m := by omega
      have q3 : l.length * 3 + 1 ≠ j * 3 + m := by omega
      have q4 : l.length * 3 ≠ j * 3 + m := by omega
      rw [Array.getElem?_setIfInBounds_ne q1, Array.getElem?_setIfInBounds_ne q2, Array.getElem?_setIfInBounds_ne q3, Array.getElem?_setIfInBounds_ne q4]
    · obtain rfl : j = l.length := by omega
      rw [List.getElem_append_right (by omega)]
      have hx : [(p.1, s')][l.length - l.length]'(by simp) = (p.1, s') := by simp
      rw [hx, hc1]
      have w0 : l.length * 3 < cur.size := by rw [k2]; omega
      have w1 : l.length * 3 + 1 < cur.size := by rw [k2]; omega
      have w2 : l.length * 3 + 2 < cur.size := by rw [k2]; omega
      match m, hm3 with
      | 0, _ =>
        rw [Array.getElem?_setIfInBounds_ne (by omega), Array.getElem?_setIfInBounds_ne (by omega), Array.getElem?_setIfInBounds_ne (by omega), Nat.add_zero, Array.getElem?_setIfInBounds_self_of_lt w0]
        rfl
      | 1, _ =>
        rw [Array.getElem?_setIfInBounds_ne (by omega), Array.getElem?_setIfInBounds_ne (by omega), Array.getElem?_setIfInBounds_self_of_lt (by simpa using w1)]
        rfl
      | 2, _ =>
        rw [Array.getElem?_setIfInBounds_self_of_lt (by simpa using w2)]
        rfl
  · rw [List.map_append, h.mp, List.length_append, List.length_singleton]
    have hlen : l.length < o.descs.length := (List.getElem?_eq_some_iff.1 hp).1
    rw [List.take_add_one, hp]
    rfl
  · rcases List.mem_append.1 hp2 with e | e
    · exact h.tg p2 e Y (tf2.trans t)
    · rw [List.mem_singleton.1 e]
      have ho : Y.ownsRow Z1.heap.size 3 1 (.slice s'.a s'.n s'.c) p.1.2.2.length (p.1.2.2.map (Value.int .i64)) := by
        have t1 : Tq Y2 (Y2.setCell ⟨G, l.length * 3 + 2, none⟩ (.slice s'.a s'.n s'.c)) (fun k => k = w.heap.size + 1 ∨ k = w.heap.size + 1 + 1 ∨ k = G) := Tq.set (.inr (.inr rfl))
        refine (t1.trans t).own r3 fun g hg => ?_
        have hlo := own_lo r3 g hg
        have hh : Z1.drew.heap.size = Z1.heap.size := rfl
        intro e2
        rcases e2 with e2 | e2 | e2 <;> omega
      exact own_rdv ho hr.most
/-- All are there: the copy is an object of the same. -/
theorem CL.done {w X : World} {c c2 : Oc} {o : Ob} {G n : Nat} {l : List ((Int × Int × List Int) × Sl)} (h : CL w X c c2 o G n l) (hn : l.length = n) (ho : n = o.descs.length) (hmo : n ≤ 140737488355328) (Y : World) (t : Tq X Y (fun k => k = w.heap.size + 1)) : ObR Y c2 o := by
  have t' : Tq X Y (fun k => k = w.heap.size + 1 ∨ k = w.heap.size + 1 + 1 ∨ k = G) := t.mono fun k _ e => .inl e
  have hY := h.q Y t'
  obtain ⟨cur, k1, k2, k3⟩ := h.cl
  have hgl := h.gl
  have hlt := h.lt
  have hc : Y.heap[G]? = some (.cells cur 47 (0, 0)) := (t.blk G hgl (by omega)).trans k1
  have hfl : ∀ (q : List ((Int × Int × List Int) × Sl)), (flat dEnc q).length = q.length * 3 := fun q => by
    induction q with
    | nil => simp [flat]
    | cons a r ih =>
      have : flat dEnc (a :: r) = (dEnc a).toList ++ flat dEnc r := rfl
      rw [this, List.length_append, ih, List.length_cons, Nat.add_mul]
      have : (dEnc a).toList.length = 3 := rfl
      omega
  refine ⟨hY.nm, hY.key, hY.ini, hY.im, hY.co, hY.pr, hY.na, hY.ex, hY.va, hY.sh, hY.st, ⟨l, ?_, ⟨by rw [h.hd]; exact hn.symm, hfl l, by omega, ?_⟩, fun p hp => ?_⟩, hY.fx, hY.sz⟩
  · rw [h.mp, List.take_of_length_le (by omega)]
  · right
    refine ⟨G, 0, by rw [h.hd], (Array.getElem?_eq_some_iff.1 hc).1, fun j u hu => ?_⟩
    have hj : j < l.length * 3 := by have := (List.getElem?_eq_some_iff.1 hu).1; rwa [hfl] at this
    have hq : j / 3 < l.length := by omega
    have hr3 : j % 3 < 3 := Nat.mod_lt _ (by omega)
    have hjk : j = j / 3 * 3 + j % 3 := by omega
    have hfa := flat_at dEnc 3 (fun _ => rfl) l (j / 3) hq (j % 3) hr3
    rw [← hjk, hu] at hfa
    have hk := k3 (j / 3) hq (j % 3) hr3
    rw [← hjk] at hk
    rw [Nat.zero_add, blk_cell hc, hk, hfa]
  · exact h.tg p hp Y t'
end Go.Proofs.Ytmfdomabegaidaa
