/-
  Layer 7: rows that the writer writes: how many, and each, by a function that is handed in.
-/
import Derived.Test.YtmfdomabegaidaaWz
import Derived.Test.YtmfdomabegaidaaPln
import Derived.Test.YtmfdomabegaidaaRtr
namespace Go.Proofs.Ytmfdomabegaidaa
set_option linter.unusedVariables false
set_option linter.unusedSimpArgs false
open Go.ChangeShapes Go.WideShapes Go.ChangeAt Go.RowKit

theorem Wr.below {X Y : World} {p B : Nat} {l : List Int} (h : Wr X p B l) (hb : Below X.heap.size X Y) : Wr Y p B l := by
  obtain ⟨a, n, c, h1, h2⟩ := h.lies
  have hp := (Array.getElem?_eq_some_iff.1 h1).1
  refine ⟨⟨a, n, c, (hb.block p hp).trans h1, ?_⟩, h.lo, Nat.le_trans h.hi hb.size, h.few⟩
  unfold Ow at *
  exact World.ownsRow.kept (row := none) h2 ⟨hb.os, hb.tape, hb.output, hb.size, fun k hk _ => hb.block k hk⟩ (by cases hv : (Value.slice a n c).ownBlock <;> simp)
theorem Wr.pl {X : World} {p B : Nat} {l : List Int} (h : Wr X p B l) : p < X.heap.size := Nat.lt_of_lt_of_le h.lo h.hi
/-- A block that is new is not the row's. -/
theorem Wr.new {X Y : World} {p B : Nat} {l : List Int} (h : Wr X p B l) (hY : Y.heap[p]? = X.heap[p]?) {k : Nat} (hk : X.heap.size ≤ k) : Wf Y p k := by
  obtain ⟨a, n, c, h1, h2⟩ := h.lies
  intro a' n' c' e e2
  rw [hY, h1] at e
  injection e with e; injection e with e _; injection e with e; injection e with e _
  rw [← e] at e2
  have := (World.ownsRow.lt h2 k e2).2
  omega
theorem Wk.bel {v X Y : World} {p B : Nat} {l : List Int} (h : Wk X Y p) (hw : Wr X p B l) (hv : v.heap.size ≤ p) (hb : Below v.heap.size v X) : Below v.heap.size v Y := by
  have t := h.tq hw
  have lo := hw.lo
  exact ⟨t.os.trans hb.os, t.tape.trans hb.tape, t.output.trans hb.output, Nat.le_trans hb.size t.size, fun k hk => (t.blk k (Nat.lt_of_lt_of_le hk hb.size) (by omega)).trans (hb.block k hk)⟩
theorem flat_len_le {α : Type} (L : α → List Int) (xs : List α) (i : Nat) (hi : i < xs.length) : ((xs.take i).map L).flatten.length + (L xs[i]).length ≤ ((xs.map L).flatten).length := by
  have h1 : xs = xs.take i ++ xs[i] :: xs.drop (i + 1) := by rw [← List.drop_eq_getElem_cons hi, List.take_append_drop]
  have h2 : ((xs.map L).flatten).length = (((xs.take i ++ xs[i] :: xs.drop (i + 1)).map L).flatten).length := by rw [← h1]
  rw [h2]
  simp only [List.map_append, List.map_cons, List.flatten_append, List.flatten_cons, List.length_append]
  omega
theorem take_next {α : Type} (L : α → List Int) (xs : List α) (i : Nat) (hi : i < xs.length) : ((xs.take (i + 1)).map L).flatten = ((xs.take i).map L).flatten ++ L xs[i] := by
  rw [List.take_succ_eq_append_getElem hi, List.map_append, List.flatten_append]; simp only [List.map_cons, List.map_nil, List.flatten_cons, List.flatten_nil, List.append_nil]
set_option maxHeartbeats 4000000 in
set_option maxRecDepth 20000 in
theorem wrow_imp (v w : World) (p B : Nat) (q : Nat) (l : List Int) (hw : Wr w p B l) (hv : v.heap.size ≤ p) (hb : Below v.heap.size v w) (xs : List (ByteArray × Int)) (s : Sl) (hR : RdV v 2 s xs.length (flat iEnc xs)) (L : ByteArray × Int → List Int) (hn : xs.length ≤ 65536) (hlen : l.length + (rowL L xs).length ≤ 800000000)
    (hP : ∀ (i : Nat) (hi : i < xs.length) (X : World) (l' : List Int), Wr X p B l' → Wk w X p → l'.length + (L xs[i]).length ≤ 800000000 → Calls Try.prog 62 #[.int .i64 (i : Int), .agg (iEnc xs[i]), .pointer (some ⟨q, 0, none⟩)] X (PostZ X p B (l' ++ L xs[i]))) :
    Calls Try.prog 61 #[.pointer (some ⟨p, 0, none⟩), .slice s.a s.n s.c, .func (.func 62) #[] #[.pointer (some ⟨q, 0, none⟩)]] w (PostZ w p B (l ++ rowL L xs)) := by
  have hsn := hR.len
  have NM : Hid (Calls Try.prog 58 #[.pointer (some ⟨p, 0, none⟩), .int .i64 (s.n : Int)] w (PostZ w p B (l ++ numL 4 (xs.length : Int)))) := by rw [hsn]; exact number_z w p B l hw _ (by omega) (by omega) (by omega)
  have HR : Hid (∀ X, Wk w X p → RdV X 2 s xs.length (flat iEnc xs)) := fun X hX => hR.below (hX.bel hw hv hb)
  have HP : Hid (∀ (i : Nat) (hi : i < xs.length) (X : World), Wr X p B (l ++ numL 4 (xs.length : Int) ++ ((xs.take i).map L).flatten) → Wk w X p → Calls Try.prog 62 #[.int .i64 (i : Int), .agg (iEnc xs[i]), .pointer (some ⟨q, 0, none⟩)] X fun e Y => e = .returned (.tuple #[]) ∧ Wr Y p B (l ++ numL 4 (xs.length : Int) ++ ((xs.take (i + 1)).map L).flatten) ∧ Wk w Y p) := fun i hi X hX hk => by
    have hle := flat_len_le L xs i hi
    unfold rowL at hlen
    rw [List.length_append] at hlen
    refine (hP i hi X _ hX hk (by rw [List.length_append, List.length_append]; omega)).mono fun e Y hh => ⟨hh.1, ?_, hk.trans hh.2.2⟩
    rw [take_next L xs i hi, ← List.append_assoc]
    exact hh.2.1
  have FIN : Hid (∀ X, Wr X p B (l ++ numL 4 (xs.length : Int) ++ ((xs.take xs.length).map L).flatten) → Wr X p B (l ++ rowL L xs)) := fun X hX => by
    rw [List.take_length] at hX
    unfold rowL
    rw [← List.append_assoc]
    exact hX
  have hat := hR.at_
  clear hP hR hw hb hlen
  obtain ⟨n, hxn⟩ : ∃ n, n = xs.length := ⟨_, rfl⟩
  rw [← hxn] at hn hsn hat
  obtain ⟨sa, sn, sc⟩ := s
  simp only at hsn hat NM HR ⊢
  subst hsn
  have HXN : Hid (sn = xs.length) := hxn
  clear hxn
  go_enter Try.func61, Try.ntmps61
  go_wp2_with (go_at_call 58; refine NM.out.mono ?_; rintro e w1 ⟨rfl, hr1, hk1⟩)
  have R1 : Hid (Wr w1 p B (l ++ numL 4 (xs.length : Int) ++ ((xs.take 0).map L).flatten) ∧ Wk w w1 p) := ⟨by simpa using hr1, hk1⟩
  clear hr1 hk1 NM
  go_loopg [6, 7, 14] sn (fun gf s6 s7 s14 wx => ∃ i : Nat, s14 = .int .i64 (i : Int) ∧ i + gf = sn ∧ Hid (Wr wx p B (l ++ numL 4 (xs.length : Int) ++ ((xs.take i).map L).flatten) ∧ Wk w wx p))
  case atStart => exact ⟨0, rfl, by omega, R1.out⟩
  case round =>
    obtain ⟨i, rfl, hi, HH⟩ := hrel
    by_cases hlt : i < sn
    · obtain ⟨g', rfl⟩ : ∃ g', gk = g' + 1 := ⟨gk - 1, by omega⟩
      have d1 : decide ((i : Int) < (sn : Int)) = true := decide_eq_true (by omega)
      have j0 : (0 : Int) ≤ (i : Int) := by omega
      have j1 : (i : Int) < (sn : Int) := by omega
      have hix : i < xs.length := by rw [← HXN.out]; exact hlt
      rcases hat with h0 | ⟨g, off, rfl, hgl, _⟩
      · omega
      have hrr := HR.out wr HH.out.2
      have hcl := fun j u hu => hrr.cell (g := g) (off := off) rfl (by omega) (j := j) (u := u) hu
      have hgn : g ≠ wr.heap.size := by have := HH.out.1.pl; omega
      have k0 : wr.cell? ⟨g, off + i * 2, none⟩ = some (.string (xs[i]).1) := by have := hcl (i * 2 + 0) _ (flat_at iEnc 2 (fun _ => rfl) xs i hix 0 (by omega)); exact this
      have k1 : wr.cell? ⟨g, off + i * 2 + 1, none⟩ = some (.int .u32 (xs[i]).2) := by have := hcl (i * 2 + 1) _ (flat_at iEnc 2 (fun _ => rfl) xs i hix 1 (by omega)); rw [← Nat.add_assoc] at this; exact this
      clear hcl hrr
      obtain ⟨x, hx⟩ : ∃ x, xs[i] = x := ⟨_, rfl⟩
      rw [hx] at k0 k1
      have PC : Hid (∀ X, Below wr.heap.size wr X → Calls Try.prog 62 #[.int .i64 (i : Int), .agg (iEnc x), .pointer (some ⟨q, 0, none⟩)] X fun e Y => e = .returned (.tuple #[]) ∧ Wr Y p B (l ++ numL 4 (xs.length : Int) ++ ((xs.take (i + 1)).map L).flatten) ∧ Wk w Y p) := fun X hX => by have := HP.out i hix X (HH.out.1.below hX) (HH.out.2.trans (Wk.below HH.out.1.pl hX)); rwa [hx] at this
      clear hx
      unfold iEnc at PC
      go_wp2_with (go_at_call 62; refine (PC.out _ (by first | exact Below.refl _ _ | go_grown)).mono ?_; rintro e w2 ⟨rfl, hq⟩)
      go_roundg g'
      case measure => omega
      case rel => exact ⟨i + 1, by simp, by omega, hq⟩
    · have d1 : decide ((i : Int) < (sn : Int)) = false := decide_eq_false (by omega)
      obtain rfl : i = sn := by omega
      have F2 : Hid (Wr wr p B (l ++ rowL L xs) ∧ Wk w wr p) := ⟨FIN.out _ (by rw [← HXN.out]; have := HH.out.1; rw [← HXN.out] at this; exact this), HH.out.2⟩
      clear HH
      go_wp2
      go_end0
      exact ⟨rfl, F2.out⟩
set_option maxHeartbeats 4000000 in
set_option maxRecDepth 20000 in
theorem wrow_word (v w : World) (p B : Nat) (q : Nat) (l : List Int) (hw : Wr w p B l) (hv : v.heap.size ≤ p) (hb : Below v.heap.size v w) (xs : List (Int)) (s : Sl) (hR : RdV v 1 s xs.length (xs.map fun x => .int .u32 (x))) (L : Int → List Int) (hn : xs.length ≤ 65536) (hlen : l.length + (rowL L xs).length ≤ 800000000)
    (hP : ∀ (i : Nat) (hi : i < xs.length) (X : World) (l' : List Int), Wr X p B l' → Wk w X p → l'.length + (L xs[i]).length ≤ 800000000 → Calls Try.prog 64 #[.int .i64 (i : Int), .int .u32 (xs[i]), .pointer (some ⟨q, 0, none⟩)] X (PostZ X p B (l' ++ L xs[i]))) :
    Calls Try.prog 63 #[.pointer (some ⟨p, 0, none⟩), .slice s.a s.n s.c, .func (.func 64) #[] #[.pointer (some ⟨q, 0, none⟩)]] w (PostZ w p B (l ++ rowL L xs)) := by
  have hsn := hR.len
  have NM : Hid (Calls Try.prog 58 #[.pointer (some ⟨p, 0, none⟩), .int .i64 (s.n : Int)] w (PostZ w p B (l ++ numL 4 (xs.length : Int)))) := by rw [hsn]; exact number_z w p B l hw _ (by omega) (by omega) (by omega)
  have HR : Hid (∀ X, Wk w X p → RdV X 1 s xs.length (xs.map fun x => .int .u32 (x))) := fun X hX => hR.below (hX.bel hw hv hb)
  have HP : Hid (∀ (i : Nat) (hi : i < xs.length) (X : World), Wr X p B (l ++ numL 4 (xs.length : Int) ++ ((xs.take i).map L).flatten) → Wk w X p → Calls Try.prog 64 #[.int .i64 (i : Int), .int .u32 (xs[i]), .pointer (some ⟨q, 0, none⟩)] X fun e Y => e = .returned (.tuple #[]) ∧ Wr Y p B (l ++ numL 4 (xs.length : Int) ++ ((xs.take (i + 1)).map L).flatten) ∧ Wk w Y p) := fun i hi X hX hk => by
    have hle := flat_len_le L xs i hi
    unfold rowL at hlen
    rw [List.length_append] at hlen
    refine (hP i hi X _ hX hk (by rw [List.length_append, List.length_append]; omega)).mono fun e Y hh => ⟨hh.1, ?_, hk.trans hh.2.2⟩
    rw [take_next L xs i hi, ← List.append_assoc]
    exact hh.2.1
  have FIN : Hid (∀ X, Wr X p B (l ++ numL 4 (xs.length : Int) ++ ((xs.take xs.length).map L).flatten) → Wr X p B (l ++ rowL L xs)) := fun X hX => by
    rw [List.take_length] at hX
    unfold rowL
    rw [← List.append_assoc]
    exact hX
  have hat := hR.at_
  clear hP hR hw hb hlen
  obtain ⟨n, hxn⟩ : ∃ n, n = xs.length := ⟨_, rfl⟩
  rw [← hxn] at hn hsn hat
  obtain ⟨sa, sn, sc⟩ := s
  simp only at hsn hat NM HR ⊢
  subst hsn
  have HXN : Hid (sn = xs.length) := hxn
  clear hxn
  go_enter Try.func63, Try.ntmps63
  go_wp2_with (go_at_call 58; refine NM.out.mono ?_; rintro e w1 ⟨rfl, hr1, hk1⟩)
  have R1 : Hid (Wr w1 p B (l ++ numL 4 (xs.length : Int) ++ ((xs.take 0).map L).flatten) ∧ Wk w w1 p) := ⟨by simpa using hr1, hk1⟩
  clear hr1 hk1 NM
  go_loopg [6, 7, 14] sn (fun gf s6 s7 s14 wx => ∃ i : Nat, s14 = .int .i64 (i : Int) ∧ i + gf = sn ∧ Hid (Wr wx p B (l ++ numL 4 (xs.length : Int) ++ ((xs.take i).map L).flatten) ∧ Wk w wx p))
  case atStart => exact ⟨0, rfl, by omega, R1.out⟩
  case round =>
    obtain ⟨i, rfl, hi, HH⟩ := hrel
    by_cases hlt : i < sn
    · obtain ⟨g', rfl⟩ : ∃ g', gk = g' + 1 := ⟨gk - 1, by omega⟩
      have d1 : decide ((i : Int) < (sn : Int)) = true := decide_eq_true (by omega)
      have j0 : (0 : Int) ≤ (i : Int) := by omega
      have j1 : (i : Int) < (sn : Int) := by omega
      have hix : i < xs.length := by rw [← HXN.out]; exact hlt
      rcases hat with h0 | ⟨g, off, rfl, hgl, _⟩
      · omega
      have hrr := HR.out wr HH.out.2
      have hcl := fun j u hu => hrr.cell (g := g) (off := off) rfl (by omega) (j := j) (u := u) hu
      have hgn : g ≠ wr.heap.size := by have := HH.out.1.pl; omega
      have k0 : wr.cell? ⟨g, off + i, none⟩ = some (.int .u32 (xs[i])) := hcl i _ (by rw [List.getElem?_map, List.getElem?_eq_getElem hix]; rfl)
      clear hcl hrr
      obtain ⟨x, hx⟩ : ∃ x, xs[i] = x := ⟨_, rfl⟩
      rw [hx] at k0
      have PC : Hid (∀ X, Below wr.heap.size wr X → Calls Try.prog 64 #[.int .i64 (i : Int), .int .u32 (x), .pointer (some ⟨q, 0, none⟩)] X fun e Y => e = .returned (.tuple #[]) ∧ Wr Y p B (l ++ numL 4 (xs.length : Int) ++ ((xs.take (i + 1)).map L).flatten) ∧ Wk w Y p) := fun X hX => by have := HP.out i hix X (HH.out.1.below hX) (HH.out.2.trans (Wk.below HH.out.1.pl hX)); rwa [hx] at this
      clear hx
      go_wp2_with (go_at_call 64; refine (PC.out _ (by first | exact Below.refl _ _ | go_grown)).mono ?_; rintro e w2 ⟨rfl, hq⟩)
      go_roundg g'
      case measure => omega
      case rel => exact ⟨i + 1, by simp, by omega, hq⟩
    · have d1 : decide ((i : Int) < (sn : Int)) = false := decide_eq_false (by omega)
      obtain rfl : i = sn := by omega
      have F2 : Hid (Wr wr p B (l ++ rowL L xs) ∧ Wk w wr p) := ⟨FIN.out _ (by rw [← HXN.out]; have := HH.out.1; rw [← HXN.out] at this; exact this), HH.out.2⟩
      clear HH
      go_wp2
      go_end0
      exact ⟨rfl, F2.out⟩
set_option maxHeartbeats 4000000 in
set_option maxRecDepth 20000 in
theorem wrow_prc (v w : World) (p B : Nat) (q : Nat) (ob : Nat) (l : List Int) (hw : Wr w p B l) (hv : v.heap.size ≤ p) (hb : Below v.heap.size v w) (xs : List (Int × ByteArray × Bool)) (s : Sl) (hR : RdV v 1 s xs.length (xs.map fun x => .int .i64 (x).1)) (L : Int × ByteArray × Bool → List Int) (hn : xs.length ≤ 65536) (hlen : l.length + (rowL L xs).length ≤ 800000000)
    (hP : ∀ (i : Nat) (hi : i < xs.length) (X : World) (l' : List Int), Wr X p B l' → Wk w X p → l'.length + (L xs[i]).length ≤ 800000000 → Calls Try.prog 66 #[.int .i64 (i : Int), .int .i64 (xs[i]).1, .pointer (some ⟨q, 0, none⟩), .pointer (some ⟨ob, 0, none⟩)] X (PostZ X p B (l' ++ L xs[i]))) :
    Calls Try.prog 65 #[.pointer (some ⟨p, 0, none⟩), .slice s.a s.n s.c, .func (.func 66) #[] #[.pointer (some ⟨q, 0, none⟩), .pointer (some ⟨ob, 0, none⟩)]] w (PostZ w p B (l ++ rowL L xs)) := by
  have hsn := hR.len
  have NM : Hid (Calls Try.prog 58 #[.pointer (some ⟨p, 0, none⟩), .int .i64 (s.n : Int)] w (PostZ w p B (l ++ numL 4 (xs.length : Int)))) := by rw [hsn]; exact number_z w p B l hw _ (by omega) (by omega) (by omega)
  have HR : Hid (∀ X, Wk w X p → RdV X 1 s xs.length (xs.map fun x => .int .i64 (x).1)) := fun X hX => hR.below (hX.bel hw hv hb)
  have HP : Hid (∀ (i : Nat) (hi : i < xs.length) (X : World), Wr X p B (l ++ numL 4 (xs.length : Int) ++ ((xs.take i).map L).flatten) → Wk w X p → Calls Try.prog 66 #[.int .i64 (i : Int), .int .i64 (xs[i]).1, .pointer (some ⟨q, 0, none⟩), .pointer (some ⟨ob, 0, none⟩)] X fun e Y => e = .returned (.tuple #[]) ∧ Wr Y p B (l ++ numL 4 (xs.length : Int) ++ ((xs.take (i + 1)).map L).flatten) ∧ Wk w Y p) := fun i hi X hX hk => by
    have hle := flat_len_le L xs i hi
    unfold rowL at hlen
    rw [List.length_append] at hlen
    refine (hP i hi X _ hX hk (by rw [List.length_append, List.length_append]; omega)).mono fun e Y hh => ⟨hh.1, ?_, hk.trans hh.2.2⟩
    rw [take_next L xs i hi, ← List.append_assoc]
    exact hh.2.1
  have FIN : Hid (∀ X, Wr X p B (l ++ numL 4 (xs.length : Int) ++ ((xs.take xs.length).map L).flatten) → Wr X p B (l ++ rowL L xs)) := fun X hX => by
    rw [List.take_length] at hX
    unfold rowL
    rw [← List.append_assoc]
    exact hX
  have hat := hR.at_
  clear hP hR hw hb hlen
  obtain ⟨n, hxn⟩ : ∃ n, n = xs.length := ⟨_, rfl⟩
  rw [← hxn] at hn hsn hat
  obtain ⟨sa, sn, sc⟩ := s
  simp only at hsn hat NM HR ⊢
  subst hsn
  have HXN : Hid (sn = xs.length) := hxn
  clear hxn
  go_enter Try.func65, Try.ntmps65
  go_wp2_with (go_at_call 58; refine NM.out.mono ?_; rintro e w1 ⟨rfl, hr1, hk1⟩)
  have R1 : Hid (Wr w1 p B (l ++ numL 4 (xs.length : Int) ++ ((xs.take 0).map L).flatten) ∧ Wk w w1 p) := ⟨by simpa using hr1, hk1⟩
  clear hr1 hk1 NM
  go_loopg [6, 7, 14] sn (fun gf s6 s7 s14 wx => ∃ i : Nat, s14 = .int .i64 (i : Int) ∧ i + gf = sn ∧ Hid (Wr wx p B (l ++ numL 4 (xs.length : Int) ++ ((xs.take i).map L).flatten) ∧ Wk w wx p))
  case atStart => exact ⟨0, rfl, by omega, R1.out⟩
  case round =>
    obtain ⟨i, rfl, hi, HH⟩ := hrel
    by_cases hlt : i < sn
    · obtain ⟨g', rfl⟩ : ∃ g', gk = g' + 1 := ⟨gk - 1, by omega⟩
      have d1 : decide ((i : Int) < (sn : Int)) = true := decide_eq_true (by omega)
      have j0 : (0 : Int) ≤ (i : Int) := by omega
      have j1 : (i : Int) < (sn : Int) := by omega
      have hix : i < xs.length := by rw [← HXN.out]; exact hlt
      rcases hat with h0 | ⟨g, off, rfl, hgl, _⟩
      · omega
      have hrr := HR.out wr HH.out.2
      have hcl := fun j u hu => hrr.cell (g := g) (off := off) rfl (by omega) (j := j) (u := u) hu
      have hgn : g ≠ wr.heap.size := by have := HH.out.1.pl; omega
      have k0 : wr.cell? ⟨g, off + i, none⟩ = some (.int .i64 (xs[i]).1) := hcl i _ (by rw [List.getElem?_map, List.getElem?_eq_getElem hix]; rfl)
      clear hcl hrr
      obtain ⟨x, hx⟩ : ∃ x, xs[i] = x := ⟨_, rfl⟩
      rw [hx] at k0
      have PC : Hid (∀ X, Below wr.heap.size wr X → Calls Try.prog 66 #[.int .i64 (i : Int), .int .i64 (x).1, .pointer (some ⟨q, 0, none⟩), .pointer (some ⟨ob, 0, none⟩)] X fun e Y => e = .returned (.tuple #[]) ∧ Wr Y p B (l ++ numL 4 (xs.length : Int) ++ ((xs.take (i + 1)).map L).flatten) ∧ Wk w Y p) := fun X hX => by have := HP.out i hix X (HH.out.1.below hX) (HH.out.2.trans (Wk.below HH.out.1.pl hX)); rwa [hx] at this
      clear hx
      go_wp2_with (go_at_call 66; refine (PC.out _ (by first | exact Below.refl _ _ | go_grown)).mono ?_; rintro e w2 ⟨rfl, hq⟩)
      go_roundg g'
      case measure => omega
      case rel => exact ⟨i + 1, by simp, by omega, hq⟩
    · have d1 : decide ((i : Int) < (sn : Int)) = false := decide_eq_false (by omega)
      obtain rfl : i = sn := by omega
      have F2 : Hid (Wr wr p B (l ++ rowL L xs) ∧ Wk w wr p) := ⟨FIN.out _ (by rw [← HXN.out]; have := HH.out.1; rw [← HXN.out] at this; exact this), HH.out.2⟩
      clear HH
      go_wp2
      go_end0
      exact ⟨rfl, F2.out⟩
set_option maxHeartbeats 4000000 in
set_option maxRecDepth 20000 in
theorem wrow_num (v w : World) (p B : Nat) (q : Nat) (l : List Int) (hw : Wr w p B l) (hv : v.heap.size ≤ p) (hb : Below v.heap.size v w) (xs : List (Int)) (s : Sl) (hR : RdV v 1 s xs.length (xs.map fun x => .int .i64 (x))) (L : Int → List Int) (hn : xs.length ≤ 65536) (hlen : l.length + (rowL L xs).length ≤ 800000000)
    (hP : ∀ (i : Nat) (hi : i < xs.length) (X : World) (l' : List Int), Wr X p B l' → Wk w X p → l'.length + (L xs[i]).length ≤ 800000000 → Calls Try.prog 57 #[.int .i64 (i : Int), .int .i64 (xs[i]), .pointer (some ⟨q, 0, none⟩)] X (PostZ X p B (l' ++ L xs[i]))) :
    Calls Try.prog 65 #[.pointer (some ⟨p, 0, none⟩), .slice s.a s.n s.c, .func (.func 57) #[] #[.pointer (some ⟨q, 0, none⟩)]] w (PostZ w p B (l ++ rowL L xs)) := by
  have hsn := hR.len
  have NM : Hid (Calls Try.prog 58 #[.pointer (some ⟨p, 0, none⟩), .int .i64 (s.n : Int)] w (PostZ w p B (l ++ numL 4 (xs.length : Int)))) := by rw [hsn]; exact number_z w p B l hw _ (by omega) (by omega) (by omega)
  have HR : Hid (∀ X, Wk w X p → RdV X 1 s xs.length (xs.map fun x => .int .i64 (x))) := fun X hX => hR.below (hX.bel hw hv hb)
  have HP : Hid (∀ (i : Nat) (hi : i < xs.length) (X : World), Wr X p B (l ++ numL 4 (xs.length : Int) ++ ((xs.take i).map L).flatten) → Wk w X p → Calls Try.prog 57 #[.int .i64 (i : Int), .int .i64 (xs[i]), .pointer (some ⟨q, 0, none⟩)] X fun e Y => e = .returned (.tuple #[]) ∧ Wr Y p B (l ++ numL 4 (xs.length : Int) ++ ((xs.take (i + 1)).map L).flatten) ∧ Wk w Y p) := fun i hi X hX hk => by
    have hle := flat_len_le L xs i hi
    unfold rowL at hlen
    rw [List.length_append] at hlen
    refine (hP i hi X _ hX hk (by rw [List.length_append, List.length_append]; omega)).mono fun e Y hh => ⟨hh.1, ?_, hk.trans hh.2.2⟩
    rw [take_next L xs i hi, ← List.append_assoc]
    exact hh.2.1
  have FIN : Hid (∀ X, Wr X p B (l ++ numL 4 (xs.length : Int) ++ ((xs.take xs.length).map L).flatten) → Wr X p B (l ++ rowL L xs)) := fun X hX => by
    rw [List.take_length] at hX
    unfold rowL
    rw [← List.append_assoc]
    exact hX
  have hat := hR.at_
  clear hP hR hw hb hlen
  obtain ⟨n, hxn⟩ : ∃ n, n = xs.length := ⟨_, rfl⟩
  rw [← hxn] at hn hsn hat
  obtain ⟨sa, sn, sc⟩ := s
  simp only at hsn hat NM HR ⊢
  subst hsn
  have HXN : Hid (sn = xs.length) := hxn
  clear hxn
  go_enter Try.func65, Try.ntmps65
  go_wp2_with (go_at_call 58; refine NM.out.mono ?_; rintro e w1 ⟨rfl, hr1, hk1⟩)
  have R1 : Hid (Wr w1 p B (l ++ numL 4 (xs.length : Int) ++ ((xs.take 0).map L).flatten) ∧ Wk w w1 p) := ⟨by simpa using hr1, hk1⟩
  clear hr1 hk1 NM
  go_loopg [6, 7, 14] sn (fun gf s6 s7 s14 wx => ∃ i : Nat, s14 = .int .i64 (i : Int) ∧ i + gf = sn ∧ Hid (Wr wx p B (l ++ numL 4 (xs.length : Int) ++ ((xs.take i).map L).flatten) ∧ Wk w wx p))
  case atStart => exact ⟨0, rfl, by omega, R1.out⟩
  case round =>
    obtain ⟨i, rfl, hi, HH⟩ := hrel
    by_cases hlt : i < sn
    · obtain ⟨g', rfl⟩ : ∃ g', gk = g' + 1 := ⟨gk - 1, by omega⟩
      have d1 : decide ((i : Int) < (sn : Int)) = true := decide_eq_true (by omega)
      have j0 : (0 : Int) ≤ (i : Int) := by omega
      have j1 : (i : Int) < (sn : Int) := by omega
      have hix : i < xs.length := by rw [← HXN.out]; exact hlt
      rcases hat with h0 | ⟨g, off, rfl, hgl, _⟩
      · omega
      have hrr := HR.out wr HH.out.2
      have hcl := fun j u hu => hrr.cell (g := g) (off := off) rfl (by omega) (j := j) (u := u) hu
      have hgn : g ≠ wr.heap.size := by have := HH.out.1.pl; omega
      have k0 : wr.cell? ⟨g, off + i, none⟩ = some (.int .i64 (xs[i])) := hcl i _ (by rw [List.getElem?_map, List.getElem?_eq_getElem hix]; rfl)
      clear hcl hrr
      obtain ⟨x, hx⟩ : ∃ x, xs[i] = x := ⟨_, rfl⟩
      rw [hx] at k0
      have PC : Hid (∀ X, Below wr.heap.size wr X → Calls Try.prog 57 #[.int .i64 (i : Int), .int .i64 (x), .pointer (some ⟨q, 0, none⟩)] X fun e Y => e = .returned (.tuple #[]) ∧ Wr Y p B (l ++ numL 4 (xs.length : Int) ++ ((xs.take (i + 1)).map L).flatten) ∧ Wk w Y p) := fun X hX => by have := HP.out i hix X (HH.out.1.below hX) (HH.out.2.trans (Wk.below HH.out.1.pl hX)); rwa [hx] at this
      clear hx
      go_wp2_with (go_at_call 57; refine (PC.out _ (by first | exact Below.refl _ _ | go_grown)).mono ?_; rintro e w2 ⟨rfl, hq⟩)
      go_roundg g'
      case measure => omega
      case rel => exact ⟨i + 1, by simp, by omega, hq⟩
    · have d1 : decide ((i : Int) < (sn : Int)) = false := decide_eq_false (by omega)
      obtain rfl : i = sn := by omega
      have F2 : Hid (Wr wr p B (l ++ rowL L xs) ∧ Wk w wr p) := ⟨FIN.out _ (by rw [← HXN.out]; have := HH.out.1; rw [← HXN.out] at this; exact this), HH.out.2⟩
      clear HH
      go_wp2
      go_end0
      exact ⟨rfl, F2.out⟩
set_option maxHeartbeats 4000000 in
set_option maxRecDepth 20000 in
theorem wrow_str (v w : World) (p B : Nat) (q : Nat) (l : List Int) (hw : Wr w p B l) (hv : v.heap.size ≤ p) (hb : Below v.heap.size v w) (xs : List (ByteArray)) (s : Sl) (hR : RdV v 1 s xs.length (xs.map fun x => .string (x))) (L : ByteArray → List Int) (hn : xs.length ≤ 65536) (hlen : l.length + (rowL L xs).length ≤ 800000000)
    (hP : ∀ (i : Nat) (hi : i < xs.length) (X : World) (l' : List Int), Wr X p B l' → Wk w X p → l'.length + (L xs[i]).length ≤ 800000000 → Calls Try.prog 69 #[.int .i64 (i : Int), .string (xs[i]), .pointer (some ⟨q, 0, none⟩)] X (PostZ X p B (l' ++ L xs[i]))) :
    Calls Try.prog 68 #[.pointer (some ⟨p, 0, none⟩), .slice s.a s.n s.c, .func (.func 69) #[] #[.pointer (some ⟨q, 0, none⟩)]] w (PostZ w p B (l ++ rowL L xs)) := by
  have hsn := hR.len
  have NM : Hid (Calls Try.prog 58 #[.pointer (some ⟨p, 0, none⟩), .int .i64 (s.n : Int)] w (PostZ w p B (l ++ numL 4 (xs.length : Int)))) := by rw [hsn]; exact number_z w p B l hw _ (by omega) (by omega) (by omega)
  have HR : Hid (∀ X, Wk w X p → RdV X 1 s xs.length (xs.map fun x => .string (x))) := fun X hX => hR.below (hX.bel hw hv hb)
  have HP : Hid (∀ (i : Nat) (hi : i < xs.length) (X : World), Wr X p B (l ++ numL 4 (xs.length : Int) ++ ((xs.take i).map L).flatten) → Wk w X p → Calls Try.prog 69 #[.int .i64 (i : Int), .string (xs[i]), .pointer (some ⟨q, 0, none⟩)] X fun e Y => e = .returned (.tuple #[]) ∧ Wr Y p B (l ++ numL 4 (xs.length : Int) ++ ((xs.take (i + 1)).map L).flatten) ∧ Wk w Y p) := fun i hi X hX hk => by
    have hle := flat_len_le L xs i hi
    unfold rowL at hlen
    rw [List.length_append] at hlen
    refine (hP i hi X _ hX hk (by rw [List.length_append, List.length_append]; omega)).mono fun e Y hh => ⟨hh.1, ?_, hk.trans hh.2.2⟩
    rw [take_next L xs i hi, ← List.append_assoc]
    exact hh.2.1
  have FIN : Hid (∀ X, Wr X p B (l ++ numL 4 (xs.length : Int) ++ ((xs.take xs.length).map L).flatten) → Wr X p B (l ++ rowL L xs)) := fun X hX => by
    rw [List.take_length] at hX
    unfold rowL
    rw [← List.append_assoc]
    exact hX
  have hat := hR.at_
  clear hP hR hw hb hlen
  obtain ⟨n, hxn⟩ : ∃ n, n = xs.length := ⟨_, rfl⟩
  rw [← hxn] at hn hsn hat
  obtain ⟨sa, sn, sc⟩ := s
  simp only at hsn hat NM HR ⊢
  subst hsn
  have HXN : Hid (sn = xs.length) := hxn
  clear hxn
  go_enter Try.func68, Try.ntmps68
  go_wp2_with (go_at_call 58; refine NM.out.mono ?_; rintro e w1 ⟨rfl, hr1, hk1⟩)
  have R1 : Hid (Wr w1 p B (l ++ numL 4 (xs.length : Int) ++ ((xs.take 0).map L).flatten) ∧ Wk w w1 p) := ⟨by simpa using hr1, hk1⟩
  clear hr1 hk1 NM
  go_loopg [6, 7, 14] sn (fun gf s6 s7 s14 wx => ∃ i : Nat, s14 = .int .i64 (i : Int) ∧ i + gf = sn ∧ Hid (Wr wx p B (l ++ numL 4 (xs.length : Int) ++ ((xs.take i).map L).flatten) ∧ Wk w wx p))
  case atStart => exact ⟨0, rfl, by omega, R1.out⟩
  case round =>
    obtain ⟨i, rfl, hi, HH⟩ := hrel
    by_cases hlt : i < sn
    · obtain ⟨g', rfl⟩ : ∃ g', gk = g' + 1 := ⟨gk - 1, by omega⟩
      have d1 : decide ((i : Int) < (sn : Int)) = true := decide_eq_true (by omega)
      have j0 : (0 : Int) ≤ (i : Int) := by omega
      have j1 : (i : Int) < (sn : Int) := by omega
      have hix : i < xs.length := by rw [← HXN.out]; exact hlt
      rcases hat with h0 | ⟨g, off, rfl, hgl, _⟩
      · omega
      have hrr := HR.out wr HH.out.2
      have hcl := fun j u hu => hrr.cell (g := g) (off := off) rfl (by omega) (j := j) (u := u) hu
      have hgn : g ≠ wr.heap.size := by have := HH.out.1.pl; omega
      have k0 : wr.cell? ⟨g, off + i, none⟩ = some (.string (xs[i])) := hcl i _ (by rw [List.getElem?_map, List.getElem?_eq_getElem hix]; rfl)
      clear hcl hrr
      obtain ⟨x, hx⟩ : ∃ x, xs[i] = x := ⟨_, rfl⟩
      rw [hx] at k0
      have PC : Hid (∀ X, Below wr.heap.size wr X → Calls Try.prog 69 #[.int .i64 (i : Int), .string (x), .pointer (some ⟨q, 0, none⟩)] X fun e Y => e = .returned (.tuple #[]) ∧ Wr Y p B (l ++ numL 4 (xs.length : Int) ++ ((xs.take (i + 1)).map L).flatten) ∧ Wk w Y p) := fun X hX => by have := HP.out i hix X (HH.out.1.below hX) (HH.out.2.trans (Wk.below HH.out.1.pl hX)); rwa [hx] at this
      clear hx
      go_wp2_with (go_at_call 69; refine (PC.out _ (by first | exact Below.refl _ _ | go_grown)).mono ?_; rintro e w2 ⟨rfl, hq⟩)
      go_roundg g'
      case measure => omega
      case rel => exact ⟨i + 1, by simp, by omega, hq⟩
    · have d1 : decide ((i : Int) < (sn : Int)) = false := decide_eq_false (by omega)
      obtain rfl : i = sn := by omega
      have F2 : Hid (Wr wr p B (l ++ rowL L xs) ∧ Wk w wr p) := ⟨FIN.out _ (by rw [← HXN.out]; have := HH.out.1; rw [← HXN.out] at this; exact this), HH.out.2⟩
      clear HH
      go_wp2
      go_end0
      exact ⟨rfl, F2.out⟩
set_option maxHeartbeats 4000000 in
set_option maxRecDepth 20000 in
theorem wrow_dsc (v w : World) (p B : Nat) (q : Nat) (nb : Nat) (l : List Int) (hw : Wr w p B l) (hv : v.heap.size ≤ p) (hb : Below v.heap.size v w) (xs : List ((Int × Int × List Int) × Sl)) (s : Sl) (hR : RdV v 3 s xs.length (flat dEnc xs)) (L : (Int × Int × List Int) × Sl → List Int) (hn : xs.length ≤ 65536) (hlen : l.length + (rowL L xs).length ≤ 800000000)
    (hP : ∀ (i : Nat) (hi : i < xs.length) (X : World) (l' : List Int), Wr X p B l' → Wk w X p → l'.length + (L xs[i]).length ≤ 800000000 → Calls Try.prog 71 #[.int .i64 (i : Int), .agg (dEnc xs[i]), .pointer (some ⟨q, 0, none⟩), .pointer (some ⟨nb, 0, none⟩)] X (PostZ X p B (l' ++ L xs[i]))) :
    Calls Try.prog 70 #[.pointer (some ⟨p, 0, none⟩), .slice s.a s.n s.c, .func (.func 71) #[] #[.pointer (some ⟨q, 0, none⟩), .pointer (some ⟨nb, 0, none⟩)]] w (PostZ w p B (l ++ rowL L xs)) := by
  have hsn := hR.len
  have NM : Hid (Calls Try.prog 58 #[.pointer (some ⟨p, 0, none⟩), .int .i64 (s.n : Int)] w (PostZ w p B (l ++ numL 4 (xs.length : Int)))) := by rw [hsn]; exact number_z w p B l hw _ (by omega) (by omega) (by omega)
  have HR : Hid (∀ X, Wk w X p → RdV X 3 s xs.length (flat dEnc xs)) := fun X hX => hR.below (hX.bel hw hv hb)
  have HP : Hid (∀ (i : Nat) (hi : i < xs.length) (X : World), Wr X p B (l ++ numL 4 (xs.length : Int) ++ ((xs.take i).map L).flatten) → Wk w X p → Calls Try.prog 71 #[.int .i64 (i : Int), .agg (dEnc xs[i]), .pointer (some ⟨q, 0, none⟩), .pointer (some ⟨nb, 0, none⟩)] X fun e Y => e = .returned (.tuple #[]) ∧ Wr Y p B (l ++ numL 4 (xs.length : Int) ++ ((xs.take (i + 1)).map L).flatten) ∧ Wk w Y p) := fun i hi X hX hk => by
    have hle := flat_len_le L xs i hi
    unfold rowL at hlen
    rw [List.length_append] at hlen
    refine (hP i hi X _ hX hk (by rw [List.length_append, List.length_append]; omega)).mono fun e Y hh => ⟨hh.1, ?_, hk.trans hh.2.2⟩
    rw [take_next L xs i hi, ← List.append_assoc]
    exact hh.2.1
  have FIN : Hid (∀ X, Wr X p B (l ++ numL 4 (xs.length : Int) ++ ((xs.take xs.length).map L).flatten) → Wr X p B (l ++ rowL L xs)) := fun X hX => by
    rw [List.take_length] at hX
    unfold rowL
    rw [← List.append_assoc]
    exact hX
  have hat := hR.at_
  clear hP hR hw hb hlen
  obtain ⟨n, hxn⟩ : ∃ n, n = xs.length := ⟨_, rfl⟩
  rw [← hxn] at hn hsn hat
  obtain ⟨sa, sn, sc⟩ := s
  simp only at hsn hat NM HR ⊢
  subst hsn
  have HXN : Hid (sn = xs.length) := hxn
  clear hxn
  go_enter Try.func70, Try.ntmps70
  go_wp2_with (go_at_call 58; refine NM.out.mono ?_; rintro e w1 ⟨rfl, hr1, hk1⟩)
  have R1 : Hid (Wr w1 p B (l ++ numL 4 (xs.length : Int) ++ ((xs.take 0).map L).flatten) ∧ Wk w w1 p) := ⟨by simpa using hr1, hk1⟩
  clear hr1 hk1 NM
  go_loopg [6, 7, 14] sn (fun gf s6 s7 s14 wx => ∃ i : Nat, s14 = .int .i64 (i : Int) ∧ i + gf = sn ∧ Hid (Wr wx p B (l ++ numL 4 (xs.length : Int) ++ ((xs.take i).map L).flatten) ∧ Wk w wx p))
  case atStart => exact ⟨0, rfl, by omega, R1.out⟩
  case round =>
    obtain ⟨i, rfl, hi, HH⟩ := hrel
    by_cases hlt : i < sn
    · obtain ⟨g', rfl⟩ : ∃ g', gk = g' + 1 := ⟨gk - 1, by omega⟩
      have d1 : decide ((i : Int) < (sn : Int)) = true := decide_eq_true (by omega)
      have j0 : (0 : Int) ≤ (i : Int) := by omega
      have j1 : (i : Int) < (sn : Int) := by omega
      have hix : i < xs.length := by rw [← HXN.out]; exact hlt
      rcases hat with h0 | ⟨g, off, rfl, hgl, _⟩
      · omega
      have hrr := HR.out wr HH.out.2
      have hcl := fun j u hu => hrr.cell (g := g) (off := off) rfl (by omega) (j := j) (u := u) hu
      have hgn : g ≠ wr.heap.size := by have := HH.out.1.pl; omega
      have k0 : wr.cell? ⟨g, off + i * 3, none⟩ = some (.int .i64 (xs[i]).1.1) := by have := hcl (i * 3 + 0) _ (flat_at dEnc 3 (fun _ => rfl) xs i hix 0 (by omega)); exact this
      have k1 : wr.cell? ⟨g, off + i * 3 + 1, none⟩ = some (.int .i64 (xs[i]).1.2.1) := by have := hcl (i * 3 + 1) _ (flat_at dEnc 3 (fun _ => rfl) xs i hix 1 (by omega)); rw [← Nat.add_assoc] at this; exact this
      have k2 : wr.cell? ⟨g, off + i * 3 + 2, none⟩ = some (.slice (xs[i]).2.a (xs[i]).2.n (xs[i]).2.c) := by have := hcl (i * 3 + 2) _ (flat_at dEnc 3 (fun _ => rfl) xs i hix 2 (by omega)); rw [← Nat.add_assoc] at this; exact this
      clear hcl hrr
      obtain ⟨x, hx⟩ : ∃ x, xs[i] = x := ⟨_, rfl⟩
      rw [hx] at k0 k1 k2
      have PC : Hid (∀ X, Below wr.heap.size wr X → Calls Try.prog 71 #[.int .i64 (i : Int), .agg (dEnc x), .pointer (some ⟨q, 0, none⟩), .pointer (some ⟨nb, 0, none⟩)] X fun e Y => e = .returned (.tuple #[]) ∧ Wr Y p B (l ++ numL 4 (xs.length : Int) ++ ((xs.take (i + 1)).map L).flatten) ∧ Wk w Y p) := fun X hX => by have := HP.out i hix X (HH.out.1.below hX) (HH.out.2.trans (Wk.below HH.out.1.pl hX)); rwa [hx] at this
      clear hx
      unfold dEnc at PC
      go_wp2_with (go_at_call 71; refine (PC.out _ (by first | exact Below.refl _ _ | go_grown)).mono ?_; rintro e w2 ⟨rfl, hq⟩)
      go_roundg g'
      case measure => omega
      case rel => exact ⟨i + 1, by simp, by omega, hq⟩
    · have d1 : decide ((i : Int) < (sn : Int)) = false := decide_eq_false (by omega)
      obtain rfl : i = sn := by omega
      have F2 : Hid (Wr wr p B (l ++ rowL L xs) ∧ Wk w wr p) := ⟨FIN.out _ (by rw [← HXN.out]; have := HH.out.1; rw [← HXN.out] at this; exact this), HH.out.2⟩
      clear HH
      go_wp2
      go_end0
      exact ⟨rfl, F2.out⟩
set_option maxHeartbeats 4000000 in
set_option maxRecDepth 20000 in
theorem wrow_fix (v w : World) (p B : Nat) (q : Nat) (l : List Int) (hw : Wr w p B l) (hv : v.heap.size ≤ p) (hb : Below v.heap.size v w) (xs : List (Int × Int × Int × Int)) (s : Sl) (hR : RdV v 4 s xs.length (flat xEnc xs)) (L : Int × Int × Int × Int → List Int) (hn : xs.length ≤ 65536) (hlen : l.length + (rowL L xs).length ≤ 800000000)
    (hP : ∀ (i : Nat) (hi : i < xs.length) (X : World) (l' : List Int), Wr X p B l' → Wk w X p → l'.length + (L xs[i]).length ≤ 800000000 → Calls Try.prog 73 #[.int .i64 (i : Int), .agg (xEnc xs[i]), .pointer (some ⟨q, 0, none⟩)] X (PostZ X p B (l' ++ L xs[i]))) :
    Calls Try.prog 72 #[.pointer (some ⟨p, 0, none⟩), .slice s.a s.n s.c, .func (.func 73) #[] #[.pointer (some ⟨q, 0, none⟩)]] w (PostZ w p B (l ++ rowL L xs)) := by
  have hsn := hR.len
  have NM : Hid (Calls Try.prog 58 #[.pointer (some ⟨p, 0, none⟩), .int .i64 (s.n : Int)] w (PostZ w p B (l ++ numL 4 (xs.length : Int)))) := by rw [hsn]; exact number_z w p B l hw _ (by omega) (by omega) (by omega)
  have HR : Hid (∀ X, Wk w X p → RdV X 4 s xs.length (flat xEnc xs)) := fun X hX => hR.below (hX.bel hw hv hb)
  have HP : Hid (∀ (i : Nat) (hi : i < xs.length) (X : World), Wr X p B (l ++ numL 4 (xs.length : Int) ++ ((xs.take i).map L).flatten) → Wk w X p → Calls Try.prog 73 #[.int .i64 (i : Int), .agg (xEnc xs[i]), .pointer (some ⟨q, 0, none⟩)] X fun e Y => e = .returned (.tuple #[]) ∧ Wr Y p B (l ++ numL 4 (xs.length : Int) ++ ((xs.take (i + 1)).map L).flatten) ∧ Wk w Y p) := fun i hi X hX hk => by
    have hle := flat_len_le L xs i hi
    unfold rowL at hlen
    rw [List.length_append] at hlen
    refine (hP i hi X _ hX hk (by rw [List.length_append, List.length_append]; omega)).mono fun e Y hh => ⟨hh.1, ?_, hk.trans hh.2.2⟩
    rw [take_next L xs i hi, ← List.append_assoc]
    exact hh.2.1
  have FIN : Hid (∀ X, Wr X p B (l ++ numL 4 (xs.length : Int) ++ ((xs.take xs.length).map L).flatten) → Wr X p B (l ++ rowL L xs)) := fun X hX => by
    rw [List.take_length] at hX
    unfold rowL
    rw [← List.append_assoc]
    exact hX
  have hat := hR.at_
  clear hP hR hw hb hlen
  obtain ⟨n, hxn⟩ : ∃ n, n = xs.length := ⟨_, rfl⟩
  rw [← hxn] at hn hsn hat
  obtain ⟨sa, sn, sc⟩ := s
  simp only at hsn hat NM HR ⊢
  subst hsn
  have HXN : Hid (sn = xs.length) := hxn
  clear hxn
  go_enter Try.func72, Try.ntmps72
  go_wp2_with (go_at_call 58; refine NM.out.mono ?_; rintro e w1 ⟨rfl, hr1, hk1⟩)
  have R1 : Hid (Wr w1 p B (l ++ numL 4 (xs.length : Int) ++ ((xs.take 0).map L).flatten) ∧ Wk w w1 p) := ⟨by simpa using hr1, hk1⟩
  clear hr1 hk1 NM
  go_loopg [6, 7, 14] sn (fun gf s6 s7 s14 wx => ∃ i : Nat, s14 = .int .i64 (i : Int) ∧ i + gf = sn ∧ Hid (Wr wx p B (l ++ numL 4 (xs.length : Int) ++ ((xs.take i).map L).flatten) ∧ Wk w wx p))
  case atStart => exact ⟨0, rfl, by omega, R1.out⟩
  case round =>
    obtain ⟨i, rfl, hi, HH⟩ := hrel
    by_cases hlt : i < sn
    · obtain ⟨g', rfl⟩ : ∃ g', gk = g' + 1 := ⟨gk - 1, by omega⟩
      have d1 : decide ((i : Int) < (sn : Int)) = true := decide_eq_true (by omega)
      have j0 : (0 : Int) ≤ (i : Int) := by omega
      have j1 : (i : Int) < (sn : Int) := by omega
      have hix : i < xs.length := by rw [← HXN.out]; exact hlt
      rcases hat with h0 | ⟨g, off, rfl, hgl, _⟩
      · omega
      have hrr := HR.out wr HH.out.2
      have hcl := fun j u hu => hrr.cell (g := g) (off := off) rfl (by omega) (j := j) (u := u) hu
      have hgn : g ≠ wr.heap.size := by have := HH.out.1.pl; omega
      have k0 : wr.cell? ⟨g, off + i * 4, none⟩ = some (.int .i64 (xs[i]).1) := by have := hcl (i * 4 + 0) _ (flat_at xEnc 4 (fun _ => rfl) xs i hix 0 (by omega)); exact this
      have k1 : wr.cell? ⟨g, off + i * 4 + 1, none⟩ = some (.int .i64 (xs[i]).2.1) := by have := hcl (i * 4 + 1) _ (flat_at xEnc 4 (fun _ => rfl) xs i hix 1 (by omega)); rw [← Nat.add_assoc] at this; exact this
      have k2 : wr.cell? ⟨g, off + i * 4 + 2, none⟩ = some (.int .i64 (xs[i]).2.2.1) := by have := hcl (i * 4 + 2) _ (flat_at xEnc 4 (fun _ => rfl) xs i hix 2 (by omega)); rw [← Nat.add_assoc] at this; exact this
      have k3 : wr.cell? ⟨g, off + i * 4 + 3, none⟩ = some (.int .i64 (xs[i]).2.2.2) := by have := hcl (i * 4 + 3) _ (flat_at xEnc 4 (fun _ => rfl) xs i hix 3 (by omega)); rw [← Nat.add_assoc] at this; exact this
      clear hcl hrr
      obtain ⟨x, hx⟩ : ∃ x, xs[i] = x := ⟨_, rfl⟩
      rw [hx] at k0 k1 k2 k3
      have PC : Hid (∀ X, Below wr.heap.size wr X → Calls Try.prog 73 #[.int .i64 (i : Int), .agg (xEnc x), .pointer (some ⟨q, 0, none⟩)] X fun e Y => e = .returned (.tuple #[]) ∧ Wr Y p B (l ++ numL 4 (xs.length : Int) ++ ((xs.take (i + 1)).map L).flatten) ∧ Wk w Y p) := fun X hX => by have := HP.out i hix X (HH.out.1.below hX) (HH.out.2.trans (Wk.below HH.out.1.pl hX)); rwa [hx] at this
      clear hx
      unfold xEnc at PC
      go_wp2_with (go_at_call 73; refine (PC.out _ (by first | exact Below.refl _ _ | go_grown)).mono ?_; rintro e w2 ⟨rfl, hq⟩)
      go_roundg g'
      case measure => omega
      case rel => exact ⟨i + 1, by simp, by omega, hq⟩
    · have d1 : decide ((i : Int) < (sn : Int)) = false := decide_eq_false (by omega)
      obtain rfl : i = sn := by omega
      have F2 : Hid (Wr wr p B (l ++ rowL L xs) ∧ Wk w wr p) := ⟨FIN.out _ (by rw [← HXN.out]; have := HH.out.1; rw [← HXN.out] at this; exact this), HH.out.2⟩
      clear HH
      go_wp2
      go_end0
      exact ⟨rfl, F2.out⟩
end Go.Proofs.Ytmfdomabegaidaa
