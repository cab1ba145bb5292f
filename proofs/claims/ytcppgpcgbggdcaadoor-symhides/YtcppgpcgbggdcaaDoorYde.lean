/-
  Layer 13: Decode.
-/
import Derived.Test.YtcppgpcgbggdcaaDoorYrt
namespace Go.Proofs.YtcppgpcgbggdcaaDoor
set_option linter.unusedVariables false
set_option linter.unusedSimpArgs false
open Go.ChangeShapes Go.WideShapes Go.ChangeAt Go.RowKit
attribute [local go_sem ↓] ldS_seal stS_seal

theorem loopS_all {α : Type} {P : α → Prop} {rd : St → α × St} (h : ∀ s, P (rd s).1) : ∀ (n : Nat) (acc : List α) (s : St), (∀ x ∈ acc, P x) → ∀ x ∈ (loopS rd n acc s).1, P x
  | 0, acc, s, ha => ha
  | n + 1, acc, s, ha => by
    simp only [loopS]
    split
    · intro x hx; cases hx
    · exact loopS_all h n _ _ (fun x hx => by
        rcases List.mem_append.1 hx with h1 | h1
        · exact ha x h1
        · rw [List.mem_singleton.1 h1]; exact h s)
theorem loopS_len {α : Type} {rd : St → α × St} : ∀ (n : Nat) (acc : List α) (s : St), (loopS rd n acc s).1.length ≤ acc.length + n
  | 0, acc, s => Nat.le_refl _
  | n + 1, acc, s => by
    simp only [loopS]
    split
    · exact Nat.zero_le _
    · have := loopS_len (rd := rd) n (acc ++ [(rd s).1]) (rd s).2
      rw [List.length_append] at this
      simp at this
      omega
theorem rowS_all {α : Type} {P : α → Prop} {rd : St → α × St} (h : ∀ s, P (rd s).1) (f : Nat → Int) (len : Nat) (most : Int) (s : St) : ∀ x ∈ (rowS f len most rd s).1, P x := loopS_all h _ _ _ (fun x hx => by cases hx)
theorem rowS_len {α : Type} {rd : St → α × St} (f : Nat → Int) (len : Nat) (most : Int) (s : St) (m0 : 0 ≤ most) : ((rowS f len most rd s).1.length : Int) ≤ most := by
  have := loopS_len (rd := rd) (numS f len most s).1.toNat [] (numS f len most s).2
  have hb := numS_bd f len most s m0
  have e : (rowS f len most rd s).1.length ≤ (numS f len most s).1.toNat := by simpa [rowS] using this
  omega
theorem textS_sz (f : Nat → Int) (len : Nat) (most : Int) (hl : len ≤ 1048576) (s : St) : (textS f len most s).1.size ≤ 1048576 := by
  unfold textS
  cases hR : textR f len s.p most with
  | none => exact Nat.zero_le _
  | some r =>
    obtain ⟨q, m⟩ := r
    simp only
    split
    · have hq : q + m ≤ len := by
        unfold textR at hR
        cases hu : uintR f len s.p with
        | none => rw [hu] at hR; cases hR
        | some r2 =>
          obtain ⟨n, i⟩ := r2
          have hb := uintR_bd hu
          rw [hu] at hR
          simp only at hR
          split at hR
          · injection hR with hR; injection hR with e1 e2; subst e1 e2; omega
          · cases hR
      show (strOfNums (bl (fun j => f (q + j)) m)).size ≤ _
      rw [strOfNums_size, bl_len]
      omega
    · exact Nat.zero_le _
/-- What is read lies so that it may be read. -/
theorem SyAt.rd {X : World} {B : Nat} {c : Sc} {f : Nat → Int} {len : Nat} {s : St} (h : SyAt X B c (symS f len s).1) (hl : len ≤ 1048576) : ∃ l, SyR X c (symS f len s).1 l := by
  obtain ⟨l, h1, h2, h3⟩ := h.ps
  have t := fun m s => textS_sz f len m hl s
  have hp : ∀ x ∈ l, x.1 ∈ (symS f len s).1.ps := fun x hx => by rw [← h1]; exact List.mem_map.2 ⟨x, hx, rfl⟩
  have pa : ∀ x ∈ (symS f len s).1.ps, x.nm.size ≤ 1048576 ∧ (x.ps.length : Int) ≤ 8 := by
    refine rowS_all (P := fun x : Pc => x.nm.size ≤ 1048576 ∧ (x.ps.length : Int) ≤ 8) (fun s => ?_) f len 100 _
    exact ⟨t 20 s, rowS_len f len 8 _ (by omega)⟩
  have ca : ∀ x ∈ (symS f len s).1.cs, x.nm.size ≤ 1048576 := by
    refine rowS_all (P := fun x : Cn => x.nm.size ≤ 1048576) (fun s => ?_) f len 200 _
    unfold conS
    simp only
    split
    · exact t 20 s
    · split
      · exact t 20 s
      · exact t 20 s
  have va : ∀ x ∈ (symS f len s).1.vs, x.nm.size ≤ 1048576 := by
    refine rowS_all (P := fun x : Vr => x.nm.size ≤ 1048576) (fun s => ?_) f len 200 _
    exact t 20 s
  have c1 : ((symS f len s).1.cs.length : Int) ≤ 200 := rowS_len f len 200 _ (by omega)
  have c2 : ((symS f len s).1.vs.length : Int) ≤ 200 := rowS_len f len 200 _ (by omega)
  have c3 : ((symS f len s).1.ps.length : Int) ≤ 100 := rowS_len f len 100 _ (by omega)
  have c4 : l.length = (symS f len s).1.ps.length := by rw [← h1, List.length_map]
  refine ⟨l, h.nm, own_rdv h.cs (by omega), own_rdv h.vs (by omega), h1, own_rdv h2 (by omega), fun p hq => own_rdv (h3 p hq) (by have := (pa _ (hp p hq)).2; omega), ?_, fun x hx => ?_, fun x hx => ?_, fun x hx => ?_⟩
  · have : (symS f len s).1.nm.size ≤ 1048576 := t 20 s
    omega
  · have := ca x hx; omega
  · have := va x hx; omega
  · have := (pa _ (hp x hx)).1; omega
/-- Whether symbols are right, by themselves. -/
def rightP (o : Sy) : Bool := rightS o (o.ps.map fun p => (p, (⟨none, 0, 0⟩ : Sl)))
theorem rightS_eq {o : Sy} {l l' : List (Pc × Sl)} (h : l.map (·.1) = l'.map (·.1)) : rightS o l = rightS o l' := by
  have e1 : l.length = l'.length := by have := congrArg List.length h; simpa using this
  have e2 : (l.all fun p => prcB p.1) = (l'.all fun p => prcB p.1) := by
    have q : ∀ m : List (Pc × Sl), (m.all fun p => prcB p.1) = (m.map (·.1)).all prcB := fun m => by rw [List.all_map]; rfl
    rw [q, q, h]
  have e3 : diffB o l = diffB o l' := by
    unfold diffB allNm
    have q : ∀ m : List (Pc × Sl), m.map (fun x : Pc × Sl => nmOf x.1.nm) = (m.map (·.1)).map (fun x : Pc => nmOf x.nm) := fun m => by rw [List.map_map]; rfl
    rw [q, q, h]
  unfold rightS
  rw [e1, e2, e3]
theorem rightS_P {o : Sy} {l : List (Pc × Sl)} (h : l.map (·.1) = o.ps) : rightS o l = rightP o := rightS_eq (by rw [h, List.map_map]; exact (List.map_id _).symm)
def markY : ByteArray := ⟨#[67, 82, 83, 49]⟩
/-- What Decode tells beside the symbols: a place and an error. -/
def decS (f : Nat → Int) (len : Nat) : Int × Int :=
  if len ≤ 1048576 ∧ 4 ≤ len ∧ strOfNums (bl f 4) = markY then
    if (symS f len ⟨4, false⟩).2.st = true ∨ (symS f len ⟨4, false⟩).2.p < len then ((symS f len ⟨4, false⟩).2.p, 131)
    else if rightP (symS f len ⟨4, false⟩).1 = true then (0, 0) else (0, 130)
  else (0, 131)
def PostE (w : World) (f : Nat → Int) (len : Nat) (e : Ending) (w' : World) : Prop := ∃ c : Sc, e = .returned (.tuple #[.agg c.cells, .int .i64 (decS f len).1, .int .i64 (decS f len).2]) ∧ Below w.heap.size w w' ∧ ((decS f len).2 ≠ 0 → c = Sc.zero) ∧ ((decS f len).2 = 0 → ∃ B, w.heap.size < B ∧ SyAt w' B c (symS f len ⟨4, false⟩).1)
theorem postE_bad {w w' : World} {f : Nat → Int} {len : Nat} {p r : Int} (h : decS f len = (p, r)) (hr : r ≠ 0) (hb : Below w.heap.size w w') : PostE w f len (.returned (.tuple #[.agg Sc.zero.cells, .int .i64 p, .int .i64 r])) w' := ⟨Sc.zero, by rw [h], hb, fun _ => rfl, fun e => by rw [h] at e; exact absurd e hr⟩
theorem Src.less {w : World} {a : Option Addr} {len cap : Nat} {f : Nat → Int} (h : Src w a len cap f) (e : Nat) (he : e ≤ len) : RdB w a e f := by
  refine ⟨Nat.le_trans he h.rd.1, ?_⟩
  rcases h.rd.2 with h0 | ⟨b, off, h1, h2⟩
  · exact .inl (by omega)
  · exact .inr ⟨b, off, h1, fun i hi => h2 i (by omega)⟩
theorem conv4 {w X : World} {b off len cap : Nat} {f : Nat → Int} (h : Src w (some ⟨b, off, none⟩) len cap f) (hX : Below w.heap.size w X) (hl : 4 ≤ len) : (convert 30 9 (.slice (some ⟨b, off, none⟩) 4 cap)).run Tryd.prog X = .ok (.string (strOfNums (bl f 4))) X := conv_rd cap ((h.below hX).less 4 hl)
theorem Src.some {w : World} {a : Option Addr} {len cap : Nat} {f : Nat → Int} (h : Src w a len cap f) (h0 : 0 < len) : ∃ b off, a = some ⟨b, off, none⟩ := by
  rcases h.rd.2 with e | ⟨b, off, e, _⟩
  · omega
  · exact ⟨b, off, e⟩
set_option maxHeartbeats 4000000 in
set_option maxRecDepth 20000 in
theorem decode_long (w : World) (a : Option Addr) (len cap : Nat) (f : Nat → Int) (hl : 1048576 < len) (hfit : len ≤ 4611686018427387904) : Calls Tryd.prog 17 #[.slice a len cap] w (PostE w f len) := by
  have hR : decS f len = (0, 131) := by unfold decS; rw [if_neg (by omega)]
  obtain ⟨Z, hst, hz, ht⟩ := stT_run Sc.zero.cells (BA.new w 26 Sc.zero.cells) rfl (by kernel_rfl) (Sc.one _)
  have HB : Hid (Below w.heap.size w Z) := ((Below.refl _ _).alloc (Nat.le_refl _) _).trans (ht.bel (by simp) (Nat.le_refl _))
  have d1 : decide ((1048576 : Int) < (len : Int)) = true := decide_eq_true (by omega)
  have d2 : 1048576 < len := hl
  simp only [Sc.cells, Sc.zero] at hst
  go_enter Tryd.func17, Tryd.ntmps17
  go_wp2
  refine ret_cell_tmp2 (p := 2) (q := 3) (r := 4) rfl rfl (load_blk hz Tryd.underlying26 rfl (by kernel_rfl)) rfl ?_
  exact postE_bad hR (by omega) HB.out
set_option maxHeartbeats 4000000 in
set_option maxRecDepth 20000 in
theorem decode_short (w : World) (a : Option Addr) (len cap : Nat) (f : Nat → Int) (hl : len < 4) : Calls Tryd.prog 17 #[.slice a len cap] w (PostE w f len) := by
  have hR : decS f len = (0, 131) := by unfold decS; rw [if_neg (by omega)]
  obtain ⟨Z, hst, hz, ht⟩ := stT_run Sc.zero.cells (BA.new w 26 Sc.zero.cells) rfl (by kernel_rfl) (Sc.one _)
  have HB : Hid (Below w.heap.size w Z) := ((Below.refl _ _).alloc (Nat.le_refl _) _).trans (ht.bel (by simp) (Nat.le_refl _))
  have d1 : decide ((1048576 : Int) < (len : Int)) = false := decide_eq_false (by omega)
  have d2 : ¬ 1048576 < len := by omega
  have d3 : decide ((len : Int) < 4) = true := decide_eq_true (by omega)
  have d4 : len < 4 := hl
  simp only [Sc.cells, Sc.zero] at hst
  go_enter Tryd.func17, Tryd.ntmps17
  go_wp2
  refine ret_cell_tmp2 (p := 2) (q := 3) (r := 4) rfl rfl (load_blk hz Tryd.underlying26 rfl (by kernel_rfl)) rfl ?_
  exact postE_bad hR (by omega) HB.out
set_option maxHeartbeats 4000000 in
set_option maxRecDepth 20000 in
theorem decode_mark (w : World) (b off len cap : Nat) (f : Nat → Int) (h : Src w (some ⟨b, off, none⟩) len cap f) (hc : len ≤ cap) (hl : 4 ≤ len) (hl2 : len ≤ 1048576) (hm : strOfNums (bl f 4) ≠ markY) : Calls Tryd.prog 17 #[.slice (some ⟨b, off, none⟩) len cap] w (PostE w f len) := by
  have hR : decS f len = (0, 131) := by unfold decS; rw [if_neg (fun e => hm e.2.2)]
  obtain ⟨Z, hst, hz, ht⟩ := stT_run Sc.zero.cells (BA.new w 26 Sc.zero.cells) rfl (by kernel_rfl) (Sc.one _)
  have HB : Hid (Below w.heap.size w Z) := ((Below.refl _ _).alloc (Nat.le_refl _) _).trans (ht.bel (by simp) (Nat.le_refl _))
  have d1 : decide ((1048576 : Int) < (len : Int)) = false := decide_eq_false (by omega)
  have d2 : ¬ 1048576 < len := by omega
  have d3 : decide ((len : Int) < 4) = false := decide_eq_false (by omega)
  have d4 : ¬ len < 4 := by omega
  have d5 : (4 : Int) ≤ (cap : Int) := by omega
  have d6 : 4 ≤ cap := by omega
  have hv := conv4 h (X := w.alloc (.cells Sc.zero.cells 26)) (by go_grown) (by omega)
  unfold markY at hm
  generalize strOfNums (bl f 4) = S4 at hv hm
  have hm2 : (S4.toList == [67, 82, 83, 49]) = false := by rw [Lib.toList_data]; simp only [beq_eq_false_iff_ne, ne_eq]; exact fun e => hm (by cases S4 with | mk d => cases d with | mk l => exact congrArg (fun t => ByteArray.mk ⟨t⟩) e)
  clear h
  simp only [Sc.cells, Sc.zero] at hst hv
  go_enter Tryd.func17, Tryd.ntmps17
  go_wp2
  refine ret_cell_tmp2 (p := 2) (q := 3) (r := 4) rfl rfl (load_blk hz Tryd.underlying26 rfl (by kernel_rfl)) rfl ?_
  exact postE_bad hR (by omega) HB.out
end Go.Proofs.YtcppgpcgbggdcaaDoor
