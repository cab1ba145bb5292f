/-
  Layer 11: a list of types that came in, opened.
-/
import Derived.Test.YtgkfnfilomjphaaDoorVft
import Derived.Test.YtgkfnfilomjphaaDoorVdr
import Derived.ProofKit
import Derived.OpenShut
import Derived.ShutString
import Derived.Deep.Slices
namespace Go.Proofs.YtgkfnfilomjphaaDoor
open Go.ChangeShapes Go.WideShapes Go.ChangeAt Go.RowKit
set_option linter.unusedVariables false
section
variable {H : Type} {enc : TypeId × Value → H} {W : World} {base : Nat} {spare : Nat → Bool} {held : Bool}
theorem num_at {n : Nat} {l : List Value} {k : Nat} {t : TypeId} {q : IntKind} {xs : List (DataW H × List MemPlace)} {i m : Nat} (hu : Tryd.prog.underlying t = some (.int q)) (hcl : Tryd.prog.cellsOf t = 1) (hm : xs.length = m) (hi : i < m) (h : DataW.trod enc Tryd.prog W base spare held n t ((l.drop k).take (Tryd.prog.cellsOf t)) = xs[i]?) :
    ∃ z, l[k]? = some (.int q z) ∧ (Lit.int q z).wf = true := by
  obtain ⟨y, hy⟩ := some_of hm hi
  rw [hy, hcl] at h
  obtain ⟨z, e1, _, wf⟩ := DataW.trod_int hu h
  exact ⟨z, at_of e1, wf⟩
theorem str_at {n : Nat} {l : List Value} {k : Nat} {t : TypeId} {xs : List (DataW H × List MemPlace)} {i m : Nat} (hu : Tryd.prog.underlying t = some .string) (hcl : Tryd.prog.cellsOf t = 1) (hm : xs.length = m) (hi : i < m) (h : DataW.trod enc Tryd.prog W base spare held n t ((l.drop k).take (Tryd.prog.cellsOf t)) = xs[i]?) :
    ∃ s, l[k]? = some (.string s) ∧ s.size ≤ maxLen := by
  obtain ⟨y, hy⟩ := some_of hm hi
  rw [hy, hcl] at h
  obtain ⟨s, e1, _, hs⟩ := DataW.trod_string hu h
  exact ⟨s, at_of e1, hs⟩
/-- A part of a struct that is one cell. -/
theorem part_at {n : Nat} {l : List Value} {k : Nat} {t : TypeId} {xs : List (DataW H × List MemPlace)} {i m : Nat} (hcl : Tryd.prog.cellsOf t = 1) (hm : xs.length = m) (hi : i < m) (h : DataW.trod enc Tryd.prog W base spare held n t ((l.drop k).take (Tryd.prog.cellsOf t)) = xs[i]?) :
    ∃ y, DataW.trod enc Tryd.prog W base spare held n t ((l.drop k).take 1) = some y := by
  obtain ⟨y, hy⟩ := some_of hm hi
  rw [hy, hcl] at h
  exact ⟨y, h⟩
theorem w_all {P : Program} {e : TypeId} {d : DataW H} {m : Nat} : ∀ {l : List (DataW H)}, d ∈ l → m ∈ d.weights P e → m ∈ DataW.weightsAll P e l
  | x :: r, hd, hm => by
    rw [DataW.weightsAll, List.mem_append]
    rcases List.mem_cons.1 hd with e | e
    · subst e; exact .inl hm
    · exact .inr (w_all e hm)
/-- No part is too great. -/
def Lt (t : TypeId) (d : DataW H) : Prop := ∀ m ∈ d.weights Tryd.prog t, m ≤ reachBytes
theorem Lt.len {t e : TypeId} {es sp : List (DataW H)} (h : Lt t (.slice es sp)) (hu : Tryd.prog.underlying t = some (.slice e)) : (es.length + sp.length) * Tryd.prog.bytesOf e ≤ reachBytes := h _ (by simp [DataW.weights, hu])
theorem Lt.el {t e : TypeId} {es sp : List (DataW H)} (h : Lt t (.slice es sp)) (hu : Tryd.prog.underlying t = some (.slice e)) {d : DataW H} (hd : d ∈ es) : Lt e d := fun m hm => h m (by
  simp only [DataW.weights, hu, List.mem_cons, List.mem_append]
  exact .inr (.inl (w_all hd hm)))
theorem Lt.part {t : TypeId} {fs : Array Field} {ps : List (DataW H)} (h : Lt t (.agg ps)) (hu : Tryd.prog.underlying t = some (.struct fs)) {j : Nat} {f : Field} {d : DataW H} (hf : fs[j]? = some f) (hd : ps[j]? = some d) : Lt f.type d := fun m hm => h m (by
  simp only [DataW.weights, hu]
  exact DataW.weights_mem_each (j := j) (t := f.type) (d := d) (by rw [List.getElem?_map]; simp [hf]) hd m hm)
/-- A slice whose elements are of k cells: what is so of each element's cells. -/
theorem open_row {α : Type} {t e : TypeId} {k fuel : Nat} {cs : List Value} {x : DataW H × List MemPlace} (ht : Tryd.prog.underlying t = some (.slice e)) (hk : Tryd.prog.cellsOf e = k) (hk0 : 0 < k) (hby : 1 ≤ Tryd.prog.bytesOf e) (h : DataW.trod enc Tryd.prog W base (fun _ => true) held fuel t cs = some x) (hw : Lt t x.1) (enc1 : α → Array Value) (ok : α → Prop) (dflt : α)
    (hel : ∀ (n : Nat) (l : List Value) (y : DataW H × List MemPlace), DataW.trod enc Tryd.prog W base (fun _ => true) held n e l = some y → Lt e y.1 → ∃ a : α, ok a ∧ l = (enc1 a).toList) (hsz : ∀ a, (enc1 a).size = k) :
    ∃ (s : Sl) (xs : List α), cs = [.slice s.a s.n s.c] ∧ (∀ a ∈ xs, ok a) ∧ RdV W k s xs.length (flat enc1 xs) := by
  have hfl : ∀ (l : List α), (flat enc1 l).length = l.length * k := fun l => by
    induction l with
    | nil => simp [flat]
    | cons c r ih =>
      have : flat enc1 (c :: r) = (enc1 c).toList ++ flat enc1 r := rfl
      rw [this, List.length_append, ih, Array.length_toList, hsz, List.length_cons, Nat.add_mul]; omega
  rcases Go.Deep.open_slice ht h with ⟨hcs, _⟩ | ⟨a, len, cap, m, n, D, Pl, hcs, _, hl, hm, hmm, hx, hall⟩
  · exact ⟨⟨none, 0, 0⟩, [], hcs, (fun a ha => by cases ha), rfl, by simp [flat], by simp, .inl rfl⟩
  · have hmc : m = cap := by simpa using hmm
    rw [hx] at hw
    have hlen : len ≤ 140737488355328 := by
      have h1 := hw.len ht
      simp only [List.length_map, List.length_range] at h1
      have h2 : len * 1 ≤ (len + (m - len)) * Tryd.prog.bytesOf e := Nat.mul_le_mul (by omega) hby
      unfold reachBytes at h1
      omega
    have hpick : ∀ i, ∃ b : α, i < len → ok b ∧ ∀ j, j < k → W.cell? ((a.add (i * k)).add j) = (enc1 b)[j]? := fun i => by
      by_cases hi : i < len
      · obtain ⟨cs', hc, htr⟩ := hall i (by omega)
        rw [hk] at hc
        obtain ⟨b, hb, hl2⟩ := hel n cs' _ htr (hw.el ht (List.mem_map.2 ⟨i, List.mem_range.2 hi, rfl⟩))
        have hg := (World.cells?_some hc).2.2
        refine ⟨b, fun _ => ⟨hb, fun j hj => ?_⟩⟩
        rw [hg j hj, hl2]
        simp
      · exact ⟨dflt, fun h => absurd h hi⟩
    obtain ⟨g, hg⟩ := Classical.axiomOfChoice hpick
    refine ⟨⟨some a, len, cap⟩, (List.range len).map g, hcs, fun b hb => ?_, by simp, hfl _, by simpa using hlen, ?_⟩
    · obtain ⟨i, hi, rfl⟩ := List.mem_map.1 hb
      exact (hg i (List.mem_range.1 hi)).1
    · by_cases h0 : len = 0
      · exact .inl (by simp [h0])
      · right
        have first := (hg 0 (by omega)).2 0 hk0
        rw [Array.getElem?_eq_getElem (by rw [hsz]; exact hk0)] at first
        obtain ⟨b, off, spot⟩ := a
        have hspot : spot = none := by
          have := World.cell?_spot first
          simpa [Addr.add] using this
        subst hspot
        refine ⟨b, off, rfl, by have := World.block_lt_of_cell? W _ first; simpa [Go.WideShapes.add_plain] using this, fun j u hu => ?_⟩
        have hjl : j < len * k := by
          obtain ⟨h1, _⟩ := List.getElem?_eq_some_iff.1 hu
          rw [hfl] at h1
          simpa using h1
        have hq : j / k < len := Nat.div_lt_of_lt_mul (by rw [Nat.mul_comm]; exact hjl)
        have hr : j % k < k := Nat.mod_lt _ hk0
        have hjk : j = j / k * k + j % k := by rw [Nat.mul_comm]; exact (Nat.div_add_mod j k).symm
        have hfa := flat_at enc1 k hsz ((List.range len).map g) (j / k) (by simpa using hq) (j % k) hr
        rw [← hjk, hu] at hfa
        have hc := (hg (j / k) hq).2 (j % k) hr
        simp only [Go.WideShapes.add_plain] at hc
        rw [Nat.add_assoc, ← hjk] at hc
        rw [hc, hfa]
        simp
theorem cells_int : Tryd.prog.cellsOf 3 = 1 := by kernel_rfl
theorem cells_str : Tryd.prog.cellsOf 9 = 1 := by kernel_rfl
theorem cells_fd : Tryd.prog.cellsOf 33 = 3 := by kernel_rfl
theorem cells_ty : Tryd.prog.cellsOf 31 = 7 := by kernel_rfl
theorem cells_fds : Tryd.prog.cellsOf 29 = 1 := by kernel_rfl
theorem bytes_ty : Tryd.prog.bytesOf 31 = 72 := by kernel_rfl
/-- A struct's part that is one cell: what it is, and that it is not too great. -/
theorem field1 {t : TypeId} {fs : Array Field} {fuel : Nat} {l : List Value} {x : DataW H × List MemPlace} (hu : Tryd.prog.underlying t = some (.struct fs)) (h : DataW.trod enc Tryd.prog W base spare held fuel t l = some x) (hw : Lt t x.1) (j : Nat) (f : Field) (hf : fs[j]? = some f) (hc : Tryd.prog.cellsOf f.type = 1) :
    ∃ (y : DataW H × List MemPlace) (n : Nat), DataW.trod enc Tryd.prog W base spare held n f.type ((l.drop f.offset).take 1) = some y ∧ Lt f.type y.1 ∧ l.length = Tryd.prog.cellsOf t := by
  obtain ⟨xs, n, _, hx, hl, hlen, hfld⟩ := DataW.trod_struct hu h
  have hj : j < xs.length := by rw [hlen]; exact (Array.getElem?_eq_some_iff.1 hf).1
  have h1 := hfld j f hf
  rw [hc, List.getElem?_eq_getElem hj] at h1
  refine ⟨xs[j], n, h1, ?_, hl⟩
  rw [hx] at hw
  exact hw.part hu hf (by rw [List.getElem?_map, List.getElem?_eq_getElem hj]; rfl)
theorem list3 {l : List Value} {a b c : Value} (hl : l.length = 3) (h0 : l[0]? = some a) (h1 : l[1]? = some b) (h2 : l[2]? = some c) : l = [a, b, c] := by
  match l, hl with
  | [x, y, z], _ => simp at h0 h1 h2; rw [h0, h1, h2]
theorem list7 {l : List Value} {a b c d e f g : Value} (hl : l.length = 7) (h0 : l[0]? = some a) (h1 : l[1]? = some b) (h2 : l[2]? = some c) (h3 : l[3]? = some d) (h4 : l[4]? = some e) (h5 : l[5]? = some f) (h6 : l[6]? = some g) : l = [a, b, c, d, e, f, g] := by
  match l, hl with
  | [x, y, z, u, v, s, t], _ => simp at h0 h1 h2 h3 h4 h5 h6; rw [h0, h1, h2, h3, h4, h5, h6]
theorem str_small {n : Nat} {l : List Value} {y : DataW H × List MemPlace} (h : DataW.trod enc Tryd.prog W base spare held n 9 l = some y) (hl : Lt 9 y.1) : ∃ z : ByteArray, l = [.string z] ∧ z.size ≤ 140737488355328 := by
  obtain ⟨z, e1, e2, _⟩ := DataW.trod_string Tryd.underlying9 h
  refine ⟨z, e1, ?_⟩
  have := hl z.data.toList.length (by rw [e2]; simp [DataW.weights])
  rw [Array.length_toList] at this
  unfold reachBytes at this
  show z.data.size ≤ _
  omega
/-- How long a list may be. -/
theorem open_len {t e : TypeId} {fuel : Nat} {a : Option Addr} {n c : Nat} {x : DataW H × List MemPlace} (ht : Tryd.prog.underlying t = some (.slice e)) (h : DataW.trod enc Tryd.prog W base (fun _ => true) held fuel t [.slice a n c] = some x) (hw : Lt t x.1) : n * Tryd.prog.bytesOf e ≤ reachBytes := by
  rcases Go.Deep.open_slice ht h with ⟨hcs, _⟩ | ⟨a', len, cap, m, n', D, Pl, hcs, _, hl, hm, hmm, hx, hall⟩
  · injection hcs with hcs _
    injection hcs with _ h1 _
    rw [h1]; simp
  · injection hcs with hcs _
    injection hcs with _ h1 _
    rw [hx] at hw
    have h2 := hw.len ht
    simp only [List.length_map, List.length_range] at h2
    rw [h1]
    exact Nat.le_trans (Nat.mul_le_mul_right _ (Nat.le_add_right _ _)) h2
theorem row_fds {fuel : Nat} {cs : List Value} {x : DataW H × List MemPlace} (h : DataW.trod enc Tryd.prog W base (fun _ => true) held fuel 29 cs = some x) (hw : Lt 29 x.1) : ∃ (s : Sl) (xs : List Fd), cs = [.slice s.a s.n s.c] ∧ (∀ z ∈ xs, z.nm.size ≤ 140737488355328) ∧ RdV W 3 s xs.length (flat fdE xs) :=
  open_row Tryd.underlying29 cells_fd (by omega) (of_decide_eq_true (by kernel_rfl)) h hw fdE (fun z => z.nm.size ≤ 140737488355328) ⟨⟨#[]⟩, 0, 0⟩ (fun n l y hy hl => by
    obtain ⟨y0, n0, a0, b0, c0⟩ := field1 Tryd.underlying33 hy hl 0 _ rfl cells_str
    obtain ⟨y1, n1, a1, b1, _⟩ := field1 Tryd.underlying33 hy hl 1 _ rfl cells_int
    obtain ⟨y2, n2, a2, b2, _⟩ := field1 Tryd.underlying33 hy hl 2 _ rfl cells_int
    obtain ⟨z0, e0, s0⟩ := str_small a0 b0
    obtain ⟨z1, e1, _, _⟩ := DataW.trod_int Tryd.underlying3 a1
    obtain ⟨z2, e2, _, _⟩ := DataW.trod_int Tryd.underlying3 a2
    exact ⟨⟨z0, z1, z2⟩, s0, list3 (c0.trans cells_fd) (at_of e0) (at_of e1) (at_of e2)⟩) (fun _ => rfl)
theorem row_tts {fuel : Nat} {cs : List Value} {x : DataW H × List MemPlace} (h : DataW.trod enc Tryd.prog W base (fun _ => true) held fuel 22 cs = some x) (hw : Lt 22 x.1) : ∃ (s : Sl) (xs : List Tt), cs = [.slice s.a s.n s.c] ∧ (∀ z ∈ xs, (∀ f ∈ z.fs, f.nm.size ≤ 140737488355328) ∧ RdV W 3 z.sl z.fs.length (flat fdE z.fs)) ∧ RdV W 7 s xs.length (flat ttE xs) :=
  open_row Tryd.underlying22 cells_ty (by omega) (of_decide_eq_true (by kernel_rfl)) h hw ttE (fun z => (∀ f ∈ z.fs, f.nm.size ≤ 140737488355328) ∧ RdV W 3 z.sl z.fs.length (flat fdE z.fs)) zeroT (fun n l y hy hl => by
    obtain ⟨y0, n0, a0, b0, c0⟩ := field1 Tryd.underlying31 hy hl 0 _ rfl cells_int
    obtain ⟨y1, n1, a1, b1, _⟩ := field1 Tryd.underlying31 hy hl 1 _ rfl cells_int
    obtain ⟨y2, n2, a2, b2, _⟩ := field1 Tryd.underlying31 hy hl 2 _ rfl cells_int
    obtain ⟨y3, n3, a3, b3, _⟩ := field1 Tryd.underlying31 hy hl 3 _ rfl cells_int
    obtain ⟨y4, n4, a4, b4, _⟩ := field1 Tryd.underlying31 hy hl 4 _ rfl cells_fds
    obtain ⟨y5, n5, a5, b5, _⟩ := field1 Tryd.underlying31 hy hl 5 _ rfl cells_int
    obtain ⟨y6, n6, a6, b6, _⟩ := field1 Tryd.underlying31 hy hl 6 _ rfl cells_int
    obtain ⟨z0, e0, _, _⟩ := DataW.trod_int Tryd.underlying3 a0
    obtain ⟨z1, e1, _, _⟩ := DataW.trod_int Tryd.underlying3 a1
    obtain ⟨z2, e2, _, _⟩ := DataW.trod_int Tryd.underlying3 a2
    obtain ⟨z3, e3, _, _⟩ := DataW.trod_int Tryd.underlying3 a3
    obtain ⟨s4, z4, e4, g4, r4⟩ := row_fds a4 b4
    obtain ⟨z5, e5, _, _⟩ := DataW.trod_int Tryd.underlying3 a5
    obtain ⟨z6, e6, _, _⟩ := DataW.trod_int Tryd.underlying3 a6
    exact ⟨⟨z0, z1, z2, z3, s4, z5, z6, z4⟩, ⟨g4, r4⟩, list7 (c0.trans cells_ty) (at_of e0) (at_of e1) (at_of e2) (at_of e3) (at_of e4) (at_of e5) (at_of e6)⟩) (fun _ => rfl)
/-- A list of types that came in. -/
theorem ls_of {fuel : Nat} {a : Option Addr} {n c : Nat} {x : DataW H × List MemPlace} (h : DataW.trod enc Tryd.prog W base (fun _ => true) held fuel 22 [.slice a n c] = some x) (hw : Lt 22 x.1) : ∃ L : List Tt, LsR W ⟨a, n, c⟩ L := by
  have hn := open_len Tryd.underlying22 h hw
  obtain ⟨s, xs, e1, g1, r1⟩ := row_tts h hw
  injection e1 with e1 _
  injection e1 with h1 h2 h3
  obtain ⟨sa, sn, sc⟩ := s
  dsimp only at h1 h2 h3
  subst h1 h2 h3
  have hl := r1.len
  dsimp only at hl
  rw [bytes_ty] at hn
  unfold reachBytes at hn
  exact ⟨xs, r1, fun t ht => (g1 t ht).2, fun t ht f hf => Nat.le_trans ((g1 t ht).1 f hf) (by unfold maxLen; omega), by omega⟩
end
end Go.Proofs.YtgkfnfilomjphaaDoor
