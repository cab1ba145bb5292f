/-
  Layer 13: the document's Decode behind its mark.
  Layer 13: the document's Decode, whole.
  Layer 13: any bytes are read as the document says: the law, whole.
  From what the program's text lays into the table of sizes to how it lies; the way from a contract to a row.
  Proved: for every row of bytes the law SymReads returns true, where the table of sizes holds what its initialiser lays: the program's Decode reads them as the document's does (the same symbols, place and answer), leaves them as they were, and what it answered may be changed without a change of what it answers next. No other condition.
-/
import Derived.Test.YtcppgpcgbggdcaaDoorMYrp
import Derived.Test.YtcppgpcgbggdcaaDoorYdj
import Derived.Test.YtcppgpcgbggdcaaDoorMYxa
import Derived.Test.YtcppgpcgbggdcaaDoorYbs
import Derived.Test.YtcppgpcgbggdcaaDoorTie
import Derived.Test.YtcppgpcgbggdcaaDoorCards
import Derived.SliceStrings
import Derived.MakeChecks
import Derived.Lay
import Derived.LaidMore
import Derived.SevenTiedAt
import Derived.JoinedOf
import Derived.ChangeSame
import Derived.Handed
import Derived.SizedLaws
import Derived.ChangeOld
import Derived.Below
import Derived.Shelf.Vars
namespace Go.Proofs.YtcppgpcgbggdcaaDoor
set_option linter.unusedVariables false
set_option linter.unusedSimpArgs false
open Go.ChangeShapes Go.WideShapes Go.ChangeAt Go.RowKit
attribute [local go_sem ↓] ldS_seal stS_seal ldP_seal stP_seal ldV_seal stV_seal ldC_seal stC_seal appN_seal

theorem info_con3 : (Tryd.prog.info? 53).map (fun i => (i.zero, i.size, i.bytes)) = some (some (.agg #[.string ⟨#[]⟩, .int .i64 0, .int .i64 0, .string ⟨#[]⟩, .bool false]), 5, 56) := by kernel_rfl
theorem info_prc3 : (Tryd.prog.info? 63).map (fun i => (i.zero, i.size, i.bytes)) = some (some (.agg #[.string ⟨#[]⟩, .slice none 0 0, .int .i64 0]), 3, 48) := by kernel_rfl
def W1 (w : World) (q off len cap : Nat) : World := ((w.alloc (.cells #[.string ⟨#[]⟩, .slice none 0 0, .slice none 0 0, .slice none 0 0] 26)).alloc (.cells #[.slice (some ⟨q, off, none⟩) len cap, .int .i64 4, .int .i64 (-1)] 89))
theorem Sc.zero_eq : Sc.zero.cells = #[.string ⟨#[]⟩, .slice none 0 0, .slice none 0 0, .slice none 0 0] := rfl
theorem W1_b (w : World) (q off len cap : Nat) : Below w.heap.size w (W1 w q off len cap) := by unfold W1; go_grown
theorem W1_s (w : World) (q off len cap : Nat) : (W1 w q off len cap).heap.size = w.heap.size + 2 := by unfold W1; simp
theorem W1_rs (w : World) (q off len cap : Nat) : BA (W1 w q off len cap) w.heap.size 26 Sc.zero.cells := by
  unfold W1
  exact (BA.new w 26 Sc.zero.cells).below ((Below.refl _ _).alloc (Nat.le_refl _) _)
theorem W1_rd {w : World} {q off len cap : Nat} {f : Nat → Int} (h : Src w (some ⟨q, off, none⟩) len cap f) (hc : len ≤ cap) (hl : 4 ≤ len) (hl2 : len ≤ 1048576) (hq : q < w.heap.size) : RdD (W1 w q off len cap) (w.heap.size + 1) (some ⟨q, off, none⟩) len cap f ⟨4, false⟩ := by
  refine ⟨?_, h.below (W1_b w q off len cap), hc, hl, hl2, fun ad he => ?_⟩
  · have := BA.new (w.alloc (.cells #[.string ⟨#[]⟩, .slice none 0 0, .slice none 0 0, .slice none 0 0] 26)) 89 #[.slice (some ⟨q, off, none⟩) len cap, .int .i64 4, .int .i64 (-1)]
    rw [show (w.alloc (.cells #[.string ⟨#[]⟩, .slice none 0 0, .slice none 0 0, .slice none 0 0] 26)).heap.size = w.heap.size + 1 by simp] at this
    exact this
  · injection he with he
    subst he
    rw [W1_s]
    exact ⟨by show q ≠ w.heap.size + 1; omega, by show q < w.heap.size + 2; omega⟩
theorem rowS_st {α : Type} {f : Nat → Int} {len : Nat} {most : Int} {rd : St → α × St} {s : St} (h : (rowS f len most rd s).2.st = false) : s.st = false := by
  unfold rowS at h
  have key : ∀ n acc t, (loopS rd n acc t).2.st = false → n = 0 → t.st = false := fun n acc t h0 hn => by subst hn; exact h0
  cases hs : s.st
  · rfl
  · exfalso
    have h1 : (numS f len most s) = (0, ⟨s.p, true⟩) := by
      unfold numS
      cases hu : uintR f len s.p with
      | none => rfl
      | some r => obtain ⟨n, i⟩ := r; simp [hs]
    rw [h1] at h
    cases h
/-- The rows of symbols that are being read. -/
structure R3 (X : World) (B : Nat) (s2 s3 s4 : Sl) (a2 : List Cn) (a3 : List Vr) (a4 : List (Pc × Sl)) : Prop where
  r2 : X.ownsRow B 53 5 (.slice s2.a s2.n s2.c) a2.length (flat cEnc a2)
  r3 : X.ownsRow B 69 5 (.slice s3.a s3.n s3.c) a3.length (flat vEnc a3)
  r4 : X.ownsRow B 63 3 (.slice s4.a s4.n s4.c) a4.length (flat pEnc a4)
  r5 : PsAt X B a4
theorem R3.nil (X : World) (B : Nat) : R3 X B ⟨none, 0, 0⟩ ⟨none, 0, 0⟩ ⟨none, 0, 0⟩ [] [] [] := ⟨own_nil _ _ _ _, own_nil _ _ _ _, own_nil _ _ _ _, fun p hp => by cases hp⟩
theorem R3.gb {X Y : World} {B b : Nat} {s2 s3 s4 : Sl} {a2 : List Cn} {a3 : List Vr} {a4 : List (Pc × Sl)} (h : R3 X B s2 s3 s4 a2 a3 a4) (hb : b < B) (hg : X.grownBy Y (some b)) : R3 Y B s2 s3 s4 a2 a3 a4 := ⟨own_gb h.r2 hb hg, own_gb h.r3 hb hg, own_gb h.r4 hb hg, h.r5.gb hb hg⟩
theorem R3.lj {X0 X : World} {B b len cap : Nat} {a : Option Addr} {f : Nat → Int} {ob rs : Nat} {cs cs0 zs : Array Value} {s : St} {s2 s3 s4 : Sl} {a2 : List Cn} {a3 : List Vr} {a4 : List (Pc × Sl)} (h : R3 X0 B s2 s3 s4 a2 a3 a4) (l : LJ X0 X b len cap a f 26 ob rs cs zs s) (hx : BA X0 ob 26 cs0) (hb : b < B) : R3 X B s2 s3 s4 a2 a3 a4 := by
  have q : ∀ {E : TypeId} {k : Nat} {v : Value} {n : Nat} {xs : List Value}, 26 ≠ E → X0.ownsRow B E k v n xs → X.ownsRow B E k v n xs := fun hne ho => l.tq.own ho fun g hg e => by
    rcases e with e | e
    · have := own_lo ho g hg; omega
    · exact own_box ho hx hne hg e
  exact ⟨q (by decide) h.r2, q (by decide) h.r3, q (by decide) h.r4, fun p hp => q (by decide) (h.r5 p hp)⟩
theorem R3.at {X : World} {B : Nat} {nm : ByteArray} {s2 s3 s4 : Sl} {a2 : List Cn} {a3 : List Vr} {a4 : List (Pc × Sl)} (h : R3 X B s2 s3 s4 a2 a3 a4) : SyAt X B ⟨nm, s2, s3, s4⟩ ⟨nm, a2, a3, a4.map (·.1)⟩ := ⟨rfl, h.r2, h.r3, a4, rfl, h.r4, h.r5⟩
theorem Lp.swap {α : Type} {rd : St → α × St} {R : List α × St} {m : Nat} {acc : List α} {x y : α} {s : St} (h : Lp rd R m (acc ++ [x]) s) (he : s.st = false → y = x) : Lp rd R m (acc ++ [y]) s := by
  rcases h with ⟨h1, h2⟩ | h
  · rw [he h1]; exact .inl ⟨h1, h2⟩
  · exact .inr h
theorem PsAt.drewD {X : World} {B : Nat} {l : List (Pc × Sl)} (h : PsAt X B l) : PsAt X.drew B l := fun p hp => own_drew (h p hp)
theorem PsAt.nextD {X0 X w5 Z : World} {b ob rs : Nat} {a : Option Addr} {acc : List (Pc × Sl)} {y : Pc} {ys : Sl} {E : TypeId} (h : PsAt X X0.heap.size acc) (p : Pj X0 b ob rs a) (hg : X.grownBy w5 (some b)) (how : w5.ownsRow X0.heap.size 69 5 (.slice ys.a ys.n ys.c) y.ps.length (flat vEnc y.ps)) (H : ∀ (E2 : TypeId) (k2 : Nat) (v2 : Value) (n2 : Nat) (xs2 : List Value), E ≠ E2 → w5.ownsRow X0.heap.size E2 k2 v2 n2 xs2 → Z.ownsRow X0.heap.size E2 k2 v2 n2 xs2) (hE : E ≠ 69) : PsAt Z X0.heap.size (acc ++ [(y, ys)]) := PsAt.snoc (fun q hq => H _ _ _ _ _ hE (own_gb (h q hq) p.lb hg)) (H _ _ _ _ _ hE how)
theorem SJ.below {w X Y : World} {b len cap : Nat} {a : Option Addr} {f : Nat → Int} {ty : TypeId} {ob rs : Nat} {cs zs : Array Value} {s : St} (h : SJ w X b len cap a f ty ob rs cs zs s) (hb : Below X.heap.size X Y) : SJ w Y b len cap a f ty ob rs cs zs s := h.call (h.rd.below hb) (gb_of_below hb b)
theorem SJ.drew {w X : World} {b len cap : Nat} {a : Option Addr} {f : Nat → Int} {ty : TypeId} {ob rs : Nat} {cs zs : Array Value} {s : St} (h : SJ w X b len cap a f ty ob rs cs zs s) : SJ w X.drew b len cap a f ty ob rs cs zs s := h.below (Below.refl _ _).drew
/-- The answer's place is filled. -/
theorem SJ.ret {w X : World} {q off len cap g : Nat} {f : Nat → Int} {cs : Array Value} {s : St} (h : SJ (W1 w q off len cap) X (w.heap.size + 1) len cap (some ⟨q, off, none⟩) f 26 g w.heap.size cs Sc.zero.cells s) (c : Sc) : ∃ Z, (stT 26 ⟨w.heap.size, 0, none⟩ (.agg c.cells)).run Tryd.prog X = .ok () Z ∧ Z.cell? ⟨w.heap.size + 1, 2, none⟩ = some (.int .i64 (if s.st then (s.p : Int) else -1)) ∧ Hid (BA Z w.heap.size 26 c.cells ∧ Below w.heap.size w Z ∧ (∀ B c0 o, w.heap.size < B → SyAt X B c0 o → SyAt Z B c0 o)) := by
  obtain ⟨Z, z1, z2, z3⟩ := stT_run c.cells h.rz rfl (by kernel_rfl) (Sc.one _)
  have hr : RdD Z (w.heap.size + 1) (some ⟨q, off, none⟩) len cap f s := h.rd.tq z3 (by omega) (fun ad he => (h.al ad he).2)
  refine ⟨Z, z1, hr.blk.cell 2, z2, ?_, fun B c0 o hB ho => ho.tq z3 (fun k hk _ => by omega)⟩
  have hb := W1_b w q off len cap
  have h3 := W1_s w q off len cap
  have hsz := h.gb.size
  have h4 : Below w.heap.size w X := ⟨h.gb.os.trans hb.os, h.gb.tape.trans hb.tape, h.gb.output.trans hb.output, by omega, fun k hk => (h.gb.block k (by omega) (fun e => by injection e with e; omega)).trans (hb.block k hk)⟩
  exact ⟨z3.os.trans h4.os, z3.tape.trans h4.tape, z3.output.trans h4.output, Nat.le_trans h4.size z3.size, fun k hk => (z3.blk k (Nat.lt_of_lt_of_le hk h4.size) (by omega)).trans (h4.block k hk)⟩
set_option maxHeartbeats 40000000 in
set_option maxRecDepth 20000 in
theorem rdec_main (w : World) (q off len cap : Nat) (f : Nat → Int) (h : Src w (some ⟨q, off, none⟩) len cap f) (hc : len ≤ cap) (hl : 4 ≤ len) (hl2 : len ≤ 1048576) (hm : strOfNums (bl f 4) = markY) : Calls Tryd.prog 18 #[.slice (some ⟨q, off, none⟩) len cap] w (PostE w f len) := by
  have hq : q < w.heap.size := by
    rcases h.rd.2 with h0 | ⟨b', off', e1, h2⟩
    · omega
    · injection e1 with e1; injection e1 with e1 e2; subst e1 e2
      exact World.block_lt_of_cell? w ⟨q, off + 0, none⟩ (h2 0 (by omega)).1
  have HQ := hid_of hq
  have R0 := hid_of (W1_rd h hc hl hl2 hq)
  have hv := fun X hX => conv4 h (X := X) hX hl
  rw [hm] at hv
  obtain ⟨x1, e1⟩ : ∃ x, x = textS f len 20 ⟨4, false⟩ := ⟨_, rfl⟩
  obtain ⟨x2, e2⟩ : ∃ x, x = rowS f len 200 (conS f len) x1.2 := ⟨_, rfl⟩
  obtain ⟨x3, e3⟩ : ∃ x, x = rowS f len 200 (varS f len) x2.2 := ⟨_, rfl⟩
  obtain ⟨x4, e4⟩ : ∃ x, x = rowS f len 100 (pcS f len) x3.2 := ⟨_, rfl⟩
  have hS : symS f len ⟨4, false⟩ = (⟨x1.1, x2.1, x3.1, x4.1⟩, x4.2) := by rw [e4, e3, e2, e1]; rfl
  have hDZ : ∀ z, symS f len ⟨4, false⟩ = z → decS f len = if z.2.st = true ∨ z.2.p < len then ((z.2.p : Int), 131) else if rightP z.1 = true then (0, 0) else (0, 130) := by
    rintro z rfl
    unfold decS
    rw [if_pos ⟨hl2, hl, hm⟩]
  have hRZ : ∀ z, symS f len ⟨4, false⟩ = z → ∀ X B c, SyAt X B c z.1 → ∃ l, SyR X c z.1 l := by
    rintro z rfl X B c hX
    exact hX.rd hl2
  have HR := hid_of (hDZ _ hS)
  have RDQ := hid_of (hRZ _ hS)
  have SYE := hid_of hS
  have E1 := hid_of e1.symm
  have E2 := hid_of e2.symm
  have E3 := hid_of e3.symm
  have E4 := hid_of e4.symm
  clear e1 e2 e3 e4 hS hDZ hRZ
  have T0 : Hid (Calls Tryd.prog 42 #[.pointer (some ⟨w.heap.size + 1, 0, none⟩), .int .i64 20] ((w.alloc (.cells #[.string ⟨#[]⟩, .slice none 0 0, .slice none 0 0, .slice none 0 0] 26)).alloc (.cells #[.slice (some ⟨q, off, none⟩) len cap, .int .i64 4, .int .i64 (-1)] 89)) fun e X => ∃ Z, e = .returned (.string x1.1) ∧ (stT 26 ⟨X.heap.size, 0, none⟩ (.agg #[.string x1.1, .slice none 0 0, .slice none 0 0, .slice none 0 0])).run Tryd.prog (X.alloc (.cells #[.string ⟨#[]⟩, .slice none 0 0, .slice none 0 0, .slice none 0 0] 26)) = .ok () Z ∧ w.heap.size + 1 < X.heap.size ∧ Hid (SJ (W1 w q off len cap) Z (w.heap.size + 1) len cap (some ⟨q, off, none⟩) f 26 X.heap.size w.heap.size (Sc.cells ⟨x1.1, ⟨none, 0, 0⟩, ⟨none, 0, 0⟩, ⟨none, 0, 0⟩⟩) Sc.zero.cells x1.2)) := hid_of ((dtext_any (W1 w q off len cap) (w.heap.size + 1) len cap _ f _ R0.out 20 (by omega) (by omega)).mono fun e X hh => by
    obtain ⟨h1, h2, h3⟩ := hh
    rw [E1.out] at h1 h2
    obtain ⟨Z, z1, z2⟩ := SJ.start (ty := 26) (zs := Sc.zero.cells) (rs := w.heap.size) (Sc.cells ⟨x1.1, ⟨none, 0, 0⟩, ⟨none, 0, 0⟩, ⟨none, 0, 0⟩⟩) (W1_rs w q off len cap) (by rw [W1_s]; omega) (fun ad he => by injection he with he; subst he; rw [W1_s]; have := HQ.out; exact ⟨by show q < w.heap.size + 2; omega, by show q ≠ w.heap.size; omega⟩) (by omega) h2 h3 rfl (by kernel_rfl) (Sc.one _)
    have hs := h3.size
    rw [W1_s] at hs
    exact ⟨Z, h1, z1, by omega, z2⟩)
  have d1 : decide ((1048576 : Int) < (len : Int)) = false := decide_eq_false (by omega)
  have d2 : ¬ 1048576 < len := by omega
  have d3 : decide ((len : Int) < 4) = false := decide_eq_false (by omega)
  have d4 : ¬ len < 4 := by omega
  have d5 : (4 : Int) ≤ (cap : Int) := by omega
  have d6 : 4 ≤ cap := by omega
  have hv1 := hv (w.alloc (.cells #[.string ⟨#[]⟩, .slice none 0 0, .slice none 0 0, .slice none 0 0] 26)) (by go_grown)
  unfold markY at hv1
  clear h hm hv
  go_enter Tryd.func18, Tryd.ntmps18
  go_upto_block 0 with (first
    | (go_at_call 43; refine (dnum_nat _ (w.heap.size + 1) len cap _ f x1.2 S1.out.rd 200 (by omega) (by omega)).mono ?_; rintro e w2 ⟨nn, rfl, HN⟩; have S2 := hid_of (S1.out.call HN.out.1 HN.out.2.1))
    | (go_at_call 42; refine T0.out.mono ?_; rintro e w1 ⟨Z1, rfl, z1, OB, S1⟩))
  obtain ⟨g, hg⟩ : ∃ g, g = w1.heap.size := ⟨_, rfl⟩
  rw [← hg] at S1 S2 OB ⊢
  clear S1 T0 z1 hg hv1 d1 d3 d5
  have KR2 := hid_of (R3.nil w2 (w.heap.size + 2))
  have PL := hid_of S2.out.pj
  have LB := hid_of HN.out.2.2
  have nb : nn ≤ 200 := by have := HN.out.2.2.2; omega
  clear HN
  go_cut [8] (fun s_ X => ∃ (acc : List Cn) (sl : Sl), Hid (SJ (W1 w q off len cap) X (w.heap.size + 1) len cap (some ⟨q, off, none⟩) f 26 g w.heap.size (Sc.cells ⟨x1.1, sl, ⟨none, 0, 0⟩, ⟨none, 0, 0⟩⟩) Sc.zero.cells x2.2 ∧ (x2.2.st = false → acc = x2.1) ∧ R3 X (w.heap.size + 2) sl ⟨none, 0, 0⟩ ⟨none, 0, 0⟩ acc [] []))
  case first =>
    obtain ⟨X0, hX0⟩ : ∃ X0, X0 = w2 := ⟨_, rfl⟩
    rw [← hX0] at S2 KR2 PL ⊢
    clear hX0
    have HW0 : Hid (w.heap.size + 2 ≤ X0.heap.size) := hid_of (by have := S2.out.gb.size; rw [W1_s] at this; exact this)
    have RR : Hid (x2 = loopS (conS f len) nn [] (numS f len 200 x1.2).2) := hid_of (by rw [← E2.out, LB.out.1]; rfl)
    have LS : Hid (Lp (conS f len) x2 nn [] (numS f len 200 x1.2).2) := hid_of (by rw [RR.out]; exact Lp.start _ _ _ fun e => by rw [LB.out.1, num_zero e]; rfl)
    clear RR LB
    generalize (numS f len 200 x1.2).2 = sa at *
    have L0 := hid_of (And.intro S2.out.lj (own_nil X0 X0.heap.size 53 5))
    go_wp2_with fail
    go_loopg [8] nn (fun gf s_ wx => ∃ (i : Nat) (acc : List Cn) (s : St) (sl : Sl), s_ = .int .i64 (i : Int) ∧ i + gf = nn ∧ Hid (LJ X0 wx (w.heap.size + 1) len cap (some ⟨q, off, none⟩) f 26 g w.heap.size (Sc.cells ⟨x1.1, sl, ⟨none, 0, 0⟩, ⟨none, 0, 0⟩⟩) Sc.zero.cells s ∧ wx.ownsRow X0.heap.size 53 5 (.slice sl.a sl.n sl.c) acc.length (flat cEnc acc) ∧ Lp (conS f len) x2 gf acc s ∧ acc.length = i))
    case atStart => exact ⟨0, [], sa, ⟨none, 0, 0⟩, rfl, by omega, L0.out.1, L0.out.2, LS.out, rfl⟩
    case round =>
      clear LS L0
      obtain ⟨i, acc, s, sl, rfl, hi, HL⟩ := hrel
      have FIN : Hid (gk = 0 ∨ s.st = true → ∃ (acc : List Cn) (sl : Sl), Hid (SJ (W1 w q off len cap) wr (w.heap.size + 1) len cap (some ⟨q, off, none⟩) f 26 g w.heap.size (Sc.cells ⟨x1.1, sl, ⟨none, 0, 0⟩, ⟨none, 0, 0⟩⟩) Sc.zero.cells x2.2 ∧ (x2.2.st = false → acc = x2.1) ∧ R3 wr (w.heap.size + 2) sl ⟨none, 0, 0⟩ ⟨none, 0, 0⟩ acc [] [])) := fun hm => by
        obtain ⟨l1, l2, l3, l4⟩ := HL.out
        obtain ⟨f1, f2⟩ := l3.fin hm
        have r := KR2.out.lj l1 S2.out.bx (by omega)
        refine ⟨acc, sl, ?_, fun e => (f2 (by rw [← f1]; exact e)).symm, ⟨own_base l2 HW0.out, r.r3, r.r4, r.r5⟩⟩
        rw [f1]
        exact S2.out.join l1
      by_cases hlt : i < nn
      rotate_left
      · have d1 : decide ((i : Int) < (nn : Int)) = false := decide_eq_false (by omega)
        have FF := hid_of (FIN.out (.inl (by omega)))
        clear FIN HL
        go_wp2
        go_meet
        exact FF.out
      have d1 : decide ((i : Int) < (nn : Int)) = true := decide_eq_true (by omega)
      obtain ⟨p, st⟩ := s
      cases st
      rotate_left
      · have d2 : decide ((p : Int) < 0) = false := decide_eq_false (by omega)
        have cb := HL.out.1.rd.c2s
        have FF := hid_of (FIN.out (.inr rfl))
        clear FIN HL
        go_wp2
        go_meet
        exact FF.out
      have cb := HL.out.1.rd.c2l
      obtain ⟨g', rfl⟩ : ∃ g', gk = g' + 1 := ⟨gk - 1, by omega⟩
      clear FIN
      have LD := hid_of (And.intro HL.out.1.drew (own_drew HL.out.2.1))
      have NX := hid_of (And.intro (HL.out.2.2.1.next rfl) HL.out.2.2.2)
      have TR : Hid (∀ X, RdD X (w.heap.size + 1) (some ⟨q, off, none⟩) len cap f ⟨p, false⟩ → Calls Tryd.prog 44 #[.pointer (some ⟨w.heap.size + 1, 0, none⟩)] X (PostCn X (w.heap.size + 1) (some ⟨q, off, none⟩) len cap f (conS f len ⟨p, false⟩))) := fun X hX => dconst_any X (w.heap.size + 1) len cap _ f _ hX
      have cD : wr.drew.cell? ⟨g, 1, none⟩ = some (.slice sl.a sl.n sl.c) := LD.out.1.bx.cell 1
      clear HL
      generalize conS f len ⟨p, false⟩ = t1 at *
      have AP : Hid (∀ X (y : Cn), LJ X0 X (w.heap.size + 1) len cap (some ⟨q, off, none⟩) f 26 g w.heap.size (Sc.cells ⟨x1.1, sl, ⟨none, 0, 0⟩, ⟨none, 0, 0⟩⟩) Sc.zero.cells t1.2 → X.ownsRow X0.heap.size 53 5 (.slice sl.a sl.n sl.c) acc.length (flat cEnc acc) → _) := hid_of fun X y hX ho => by
        obtain ⟨i0, hi0, hz0, hz1, hz2⟩ := info_parts info_con3
        exact hX.app (j := 1) PL.out Tryd.underlying22 hi0 hz0 hz1 hz2 rfl (by omega) (by omega) (cEnc y) rfl (by intro u hu; simp [cEnc] at hu; rcases hu with rfl | rfl | rfl | rfl | rfl <;> rfl) ho (by have := NX.out.2; omega) rfl
      go_wp2
      refine wp_region_held_drew (S := (fun _ => True)) (by kernel_rfl) trivial (fun hHeld => ?_)
      refine wpAnyH_take (i := 0) (v := ?_) rfl (by kernel_rfl) (by kernel_rfl) (by kernel_rfl) (fun _ _ _ h => h) (Or.inl ⟨by kernel_rfl, ?y0c⟩) hHeld ?r0c
      case y0c => (intro wq hSw; go_simp; try rfl)
      simp only [Act.put, List.setIfInBounds_toArray, List.set_cons_zero, List.set_cons_succ]
      refine wpAnyH_take (i := 2) (v := ?_) rfl (by kernel_rfl) (by kernel_rfl) (by kernel_rfl) (fun _ _ _ h => h) (Or.inl ⟨by kernel_rfl, ?y2c⟩) hHeld ?r2c
      case y2c => (intro wq hSw; go_simp; try rfl)
      simp only [Act.put, List.setIfInBounds_toArray, List.set_cons_zero, List.set_cons_succ]
      refine wpAnyH_ready (rs := [1, 3]) (by kernel_rfl) (by simp) ?_
      refine AllReadyH.cons rfl (fun K hK => ?_) (AllReadyH.cons rfl (fun K hK => ?_) AllReadyH.nil)
      · go_simp
        refine hK.out _ _ trivial (fun _ => ?_)
        clear hK K
        refine wpAnyH_ready (rs := [3]) (by kernel_rfl) (by simp) ?_
        refine AllReadyH.cons rfl (fun K hK => ?_) AllReadyH.nil
        go_simp
        go_wp2_with (go_at_call 44; refine (TR.out _ LD.out.1.rd).mono ?_; rintro e w5 ⟨y, rfl, hy, hr, hg⟩; have HY := hid_of hy; obtain ⟨s', Y, hrun, cY, fY, cX, cA, HNX⟩ := AP.out w5 y (LD.out.1.read PL.out hr hg) (own_read LD.out.2 PL.out hg); simp only [cEnc] at hrun cA ⊢; clear hr hg hy)
        refine hK.out _ _ trivial (fun _ => ?_)
        clear hK K
        refine wpAnyH_ready (rs := [4]) (by kernel_rfl) (by simp) ?_
        refine AllReadyH.cons rfl (fun K hK => ?_) AllReadyH.nil
        go_simp
        refine hK.out _ _ trivial (fun _ => ?_)
        clear hK K
        refine wpAnyH_ready (rs := [5]) (by kernel_rfl) (by simp) ?_
        refine AllReadyH.cons rfl (fun K hK => ?_) AllReadyH.nil
        go_simp
        refine hK.out _ _ trivial (fun _ => ?_)
        clear hK K
        refine wpAnyH_ready (rs := [6]) (by kernel_rfl) (by simp) ?_
        refine AllReadyH.cons rfl (fun K hK => ?_) AllReadyH.nil
        go_simp
        refine hK.out _ _ trivial (fun _ => ?_)
        clear hK K
        refine wpAnyH_ready (rs := [7]) (by kernel_rfl) (by simp) ?_
        refine AllReadyH.cons rfl (fun K hK => ?_) AllReadyH.nil
        go_simp
        refine hK.out _ _ trivial (fun _ => ?_)
        clear hK K
        refine wpAnyH_done (by kernel_rfl) ?_ _
        go_wp2_with fail
        go_roundg g'
        case measure => omega
        case rel => exact ⟨i + 1, acc ++ [y], t1.2, s', by simp, by omega, HNX.out.1, by rw [List.length_append, flat_snoc]; exact HNX.out.2.1, NX.out.1.swap HY.out, by rw [List.length_append, NX.out.2]; rfl⟩
      · go_simp
        go_wp2_with (go_at_call 44; refine (TR.out _ LD.out.1.rd).mono ?_; rintro e w5 ⟨y, rfl, hy, hr, hg⟩; have HY := hid_of hy; obtain ⟨s', Y, hrun, cY, fY, cX, cA, HNX⟩ := AP.out w5 y (LD.out.1.read PL.out hr hg) (own_read LD.out.2 PL.out hg); simp only [cEnc] at hrun cA ⊢; clear hr hg hy)
        refine hK.out _ _ trivial (fun _ => ?_)
        clear hK K
        refine wpAnyH_ready (rs := [1, 4]) (by kernel_rfl) (by simp) ?_
        refine AllReadyH.cons rfl (fun K hK => ?_) (AllReadyH.cons rfl (fun K hK => ?_) AllReadyH.nil)
        · go_simp
          refine hK.out _ _ trivial (fun _ => ?_)
          clear hK K
          refine wpAnyH_ready (rs := [4]) (by kernel_rfl) (by simp) ?_
          refine AllReadyH.cons rfl (fun K hK => ?_) AllReadyH.nil
          go_simp
          refine hK.out _ _ trivial (fun _ => ?_)
          clear hK K
          refine wpAnyH_ready (rs := [5]) (by kernel_rfl) (by simp) ?_
          refine AllReadyH.cons rfl (fun K hK => ?_) AllReadyH.nil
          go_simp
          refine hK.out _ _ trivial (fun _ => ?_)
          clear hK K
          refine wpAnyH_ready (rs := [6]) (by kernel_rfl) (by simp) ?_
          refine AllReadyH.cons rfl (fun K hK => ?_) AllReadyH.nil
          go_simp
          refine hK.out _ _ trivial (fun _ => ?_)
          clear hK K
          refine wpAnyH_ready (rs := [7]) (by kernel_rfl) (by simp) ?_
          refine AllReadyH.cons rfl (fun K hK => ?_) AllReadyH.nil
          go_simp
          refine hK.out _ _ trivial (fun _ => ?_)
          clear hK K
          refine wpAnyH_done (by kernel_rfl) ?_ _
          go_wp2_with fail
          go_roundg g'
          case measure => omega
          case rel => exact ⟨i + 1, acc ++ [y], t1.2, s', by simp, by omega, HNX.out.1, by rw [List.length_append, flat_snoc]; exact HNX.out.2.1, NX.out.1.swap HY.out, by rw [List.length_append, NX.out.2]; rfl⟩
        · go_simp
          refine hK.out _ _ trivial (fun _ => ?_)
          clear hK K
          refine wpAnyH_ready (rs := [1]) (by kernel_rfl) (by simp) ?_
          refine AllReadyH.cons rfl (fun K hK => ?_) AllReadyH.nil
          go_simp
          refine hK.out _ _ trivial (fun _ => ?_)
          clear hK K
          refine wpAnyH_ready (rs := [5]) (by kernel_rfl) (by simp) ?_
          refine AllReadyH.cons rfl (fun K hK => ?_) AllReadyH.nil
          go_simp
          refine hK.out _ _ trivial (fun _ => ?_)
          clear hK K
          refine wpAnyH_ready (rs := [6]) (by kernel_rfl) (by simp) ?_
          refine AllReadyH.cons rfl (fun K hK => ?_) AllReadyH.nil
          go_simp
          refine hK.out _ _ trivial (fun _ => ?_)
          clear hK K
          refine wpAnyH_ready (rs := [7]) (by kernel_rfl) (by simp) ?_
          refine AllReadyH.cons rfl (fun K hK => ?_) AllReadyH.nil
          go_simp
          refine hK.out _ _ trivial (fun _ => ?_)
          clear hK K
          refine wpAnyH_done (by kernel_rfl) ?_ _
          go_wp2_with fail
          go_roundg g'
          case measure => omega
          case rel => exact ⟨i + 1, acc ++ [y], t1.2, s', by simp, by omega, HNX.out.1, by rw [List.length_append, flat_snoc]; exact HNX.out.2.1, NX.out.1.swap HY.out, by rw [List.length_append, NX.out.2]; rfl⟩
  case rest =>
    obtain ⟨acc2, sl2, H2⟩ := hcut
    have A2 := hid_of H2.out.2.1
    have R2r := hid_of H2.out.2.2
    have S2r := hid_of H2.out.1
    clear H2 S2 KR2 PL LB nb
    go_upto_block 2 with (go_at_call 43; refine (dnum_nat _ (w.heap.size + 1) len cap _ f x2.2 S2r.out.rd 200 (by omega) (by omega)).mono ?_; rintro e w4 ⟨nn, rfl, HN⟩; have S3 := hid_of (S2r.out.call HN.out.1 HN.out.2.1); have KR3 := hid_of (R2r.out.gb (by omega) HN.out.2.1))
    clear S2r R2r
    have PL := hid_of S3.out.pj
    have LB := hid_of HN.out.2.2
    have nb : nn ≤ 200 := by have := HN.out.2.2.2; omega
    clear HN
    go_cut [9] (fun s_ X => ∃ (acc : List Vr) (sl : Sl), Hid (SJ (W1 w q off len cap) X (w.heap.size + 1) len cap (some ⟨q, off, none⟩) f 26 g w.heap.size (Sc.cells ⟨x1.1, sl2, sl, ⟨none, 0, 0⟩⟩) Sc.zero.cells x3.2 ∧ (x3.2.st = false → acc = x3.1) ∧ R3 X (w.heap.size + 2) sl2 sl ⟨none, 0, 0⟩ acc2 acc []))
    case first =>
      obtain ⟨X0, hX0⟩ : ∃ X0, X0 = w4 := ⟨_, rfl⟩
      rw [← hX0] at S3 KR3 PL ⊢
      clear hX0
      have HW0 : Hid (w.heap.size + 2 ≤ X0.heap.size) := hid_of (by have := S3.out.gb.size; rw [W1_s] at this; exact this)
      have RR : Hid (x3 = loopS (varS f len) nn [] (numS f len 200 x2.2).2) := hid_of (by rw [← E3.out, LB.out.1]; rfl)
      have LS : Hid (Lp (varS f len) x3 nn [] (numS f len 200 x2.2).2) := hid_of (by rw [RR.out]; exact Lp.start _ _ _ fun e => by rw [LB.out.1, num_zero e]; rfl)
      clear RR LB
      generalize (numS f len 200 x2.2).2 = sa at *
      have L0 := hid_of (And.intro S3.out.lj (own_nil X0 X0.heap.size 69 5))
      go_wp2_with fail
      go_loopg [9] nn (fun gf s_ wx => ∃ (i : Nat) (acc : List Vr) (s : St) (sl : Sl), s_ = .int .i64 (i : Int) ∧ i + gf = nn ∧ Hid (LJ X0 wx (w.heap.size + 1) len cap (some ⟨q, off, none⟩) f 26 g w.heap.size (Sc.cells ⟨x1.1, sl2, sl, ⟨none, 0, 0⟩⟩) Sc.zero.cells s ∧ wx.ownsRow X0.heap.size 69 5 (.slice sl.a sl.n sl.c) acc.length (flat vEnc acc) ∧ Lp (varS f len) x3 gf acc s ∧ acc.length = i))
      case atStart => exact ⟨0, [], sa, ⟨none, 0, 0⟩, rfl, by omega, L0.out.1, L0.out.2, LS.out, rfl⟩
      case round =>
        clear LS L0
        obtain ⟨i, acc, s, sl, rfl, hi, HL⟩ := hrel
        have FIN : Hid (gk = 0 ∨ s.st = true → ∃ (acc : List Vr) (sl : Sl), Hid (SJ (W1 w q off len cap) wr (w.heap.size + 1) len cap (some ⟨q, off, none⟩) f 26 g w.heap.size (Sc.cells ⟨x1.1, sl2, sl, ⟨none, 0, 0⟩⟩) Sc.zero.cells x3.2 ∧ (x3.2.st = false → acc = x3.1) ∧ R3 wr (w.heap.size + 2) sl2 sl ⟨none, 0, 0⟩ acc2 acc [])) := fun hm => by
          obtain ⟨l1, l2, l3, l4⟩ := HL.out
          obtain ⟨f1, f2⟩ := l3.fin hm
          have r := KR3.out.lj l1 S3.out.bx (by omega)
          refine ⟨acc, sl, ?_, fun e => (f2 (by rw [← f1]; exact e)).symm, ⟨r.r2, own_base l2 HW0.out, r.r4, r.r5⟩⟩
          rw [f1]
          exact S3.out.join l1
        by_cases hlt : i < nn
        rotate_left
        · have d1 : decide ((i : Int) < (nn : Int)) = false := decide_eq_false (by omega)
          have FF := hid_of (FIN.out (.inl (by omega)))
          clear FIN HL
          go_wp2
          go_meet
          exact FF.out
        have d1 : decide ((i : Int) < (nn : Int)) = true := decide_eq_true (by omega)
        obtain ⟨p, st⟩ := s
        cases st
        rotate_left
        · have d2 : decide ((p : Int) < 0) = false := decide_eq_false (by omega)
          have cb := HL.out.1.rd.c2s
          have FF := hid_of (FIN.out (.inr rfl))
          clear FIN HL
          go_wp2
          go_meet
          exact FF.out
        have cb := HL.out.1.rd.c2l
        obtain ⟨g', rfl⟩ : ∃ g', gk = g' + 1 := ⟨gk - 1, by omega⟩
        clear FIN
        have ML := hid_of (MJ.new HL.out.1 HL.out.2.1 #[.string ⟨#[]⟩, .int .i64 0, .int .i64 0, .bool false, .bool false] 69)
        have NX := hid_of (And.intro (HL.out.2.2.1.next rfl) HL.out.2.2.2)
        have VE : Hid (varS f len ⟨p, false⟩ = (⟨(textS f len 20 ⟨p, false⟩).1, (octP f len plainB (textS f len 20 ⟨p, false⟩).2).1, (numS f len 4294967295 (octP f len plainB (textS f len 20 ⟨p, false⟩).2).2).1, false, false⟩, (numS f len 4294967295 (octP f len plainB (textS f len 20 ⟨p, false⟩).2).2).2)) := hid_of rfl
        rw [VE.out] at NX
        clear HL VE
        have TR1 : Hid (∀ X, RdD X (w.heap.size + 1) (some ⟨q, off, none⟩) len cap f ⟨p, false⟩ → Calls Tryd.prog 42 #[.pointer (some ⟨w.heap.size + 1, 0, none⟩), .int .i64 20] X (PostRd X (w.heap.size + 1) (some ⟨q, off, none⟩) len cap f (.string (textS f len 20 ⟨p, false⟩).1) (textS f len 20 ⟨p, false⟩).2)) := fun X hX => dtext_any X (w.heap.size + 1) len cap _ f _ hX 20 (by omega) (by omega)
        generalize textS f len 20 ⟨p, false⟩ = t1 at *
        have TR2 : Hid (∀ X, RdD X (w.heap.size + 1) (some ⟨q, off, none⟩) len cap f t1.2 → Calls Tryd.prog 45 #[.pointer (some ⟨w.heap.size + 1, 0, none⟩), .int .u8 1, .int .u8 5] X (PostRd X (w.heap.size + 1) (some ⟨q, off, none⟩) len cap f (.int .i64 (octP f len plainB t1.2).1) (octP f len plainB t1.2).2)) := fun X hX => one_rg X (w.heap.size + 1) len cap _ f _ plainB 1 5 hX (fun _ _ => rfl) (by omega) (by omega)
        generalize octP f len plainB t1.2 = t2 at *
        have TR3 : Hid (∀ X, RdD X (w.heap.size + 1) (some ⟨q, off, none⟩) len cap f t2.2 → Calls Tryd.prog 43 #[.pointer (some ⟨w.heap.size + 1, 0, none⟩), .int .u32 4294967295] X (PostRd X (w.heap.size + 1) (some ⟨q, off, none⟩) len cap f (.int .i64 (numS f len 4294967295 t2.2).1) (numS f len 4294967295 t2.2).2)) := fun X hX => dnumber_any X (w.heap.size + 1) len cap _ f _ hX 4294967295 (by omega) (by omega)
        generalize numS f len 4294967295 t2.2 = t3 at *
        have AP : Hid (∀ X, MJ X0 X (w.heap.size + 1) len cap (some ⟨q, off, none⟩) f 26 g w.heap.size (Sc.cells ⟨x1.1, sl2, sl, ⟨none, 0, 0⟩⟩) Sc.zero.cells t3.2 wr.heap.size #[.string t1.1, .int .i64 t2.1, .int .i64 t3.1, .bool false, .bool false] 69 69 5 (.slice sl.a sl.n sl.c) acc.length (flat vEnc acc) → _) := hid_of fun X hX => by
          obtain ⟨i0, hi0, hz0, hz1, hz2⟩ := info_parts info_par3
          exact hX.li.app (j := 2) PL.out Tryd.underlying23 hi0 hz0 hz1 hz2 rfl (by omega) (by omega) #[.string t1.1, .int .i64 t2.1, .int .i64 t3.1, .bool false, .bool false] rfl (by intro u hu; simp at hu; rcases hu with rfl | rfl | rfl | rfl | rfl <;> rfl) hX.ow (by have := NX.out.2; omega) rfl
        go_wp2_with (first
          | (have hz := M2; clear hz; go_at_call 43; refine (TR3.out _ M2.out.li.rd).mono ?_; rintro e v3 ⟨rfl, hr, hg⟩; have N3 := hid_of (M2.out.read PL.out hr hg); have c3a : v3.cell? ⟨wr.heap.size, 2, none⟩ = some (.int .i64 0) := N3.out.cell 2; have z3a := N3.out.fz 2; have M3 : Hid (MJ X0 (v3.setCell ⟨wr.heap.size, 2, none⟩ (.int .i64 t3.1)) (w.heap.size + 1) len cap (some ⟨q, off, none⟩) f 26 g w.heap.size (Sc.cells ⟨x1.1, sl2, sl, ⟨none, 0, 0⟩⟩) Sc.zero.cells t3.2 wr.heap.size #[.string t1.1, .int .i64 t2.1, .int .i64 t3.1, .bool false, .bool false] 69 69 5 (.slice sl.a sl.n sl.c) acc.length (flat vEnc acc)) := N3.out.set PL.out 2 _; have ld := ldT_run M3.out.bd Tryd.underlying69 rfl (by kernel_rfl); obtain ⟨s', Y, hrun, cY, fY, cX, cA, HNX⟩ := AP.out _ M3.out; rw [show (v3.setCell ⟨wr.heap.size, 2, none⟩ (.int .i64 t3.1)).heap.size = v3.heap.size from (by simp)] at hrun; clear hr hg)
          | (have hz := M1; clear hz; go_at_call 45; refine (TR2.out _ M1.out.li.rd).mono ?_; rintro e v2 ⟨rfl, hr, hg⟩; have N2 := hid_of (M1.out.read PL.out hr hg); have c2a : v2.cell? ⟨wr.heap.size, 1, none⟩ = some (.int .i64 0) := N2.out.cell 1; have z2a := N2.out.fz 1; have M2 : Hid (MJ X0 (v2.setCell ⟨wr.heap.size, 1, none⟩ (.int .i64 t2.1)) (w.heap.size + 1) len cap (some ⟨q, off, none⟩) f 26 g w.heap.size (Sc.cells ⟨x1.1, sl2, sl, ⟨none, 0, 0⟩⟩) Sc.zero.cells t2.2 wr.heap.size #[.string t1.1, .int .i64 t2.1, .int .i64 0, .bool false, .bool false] 69 69 5 (.slice sl.a sl.n sl.c) acc.length (flat vEnc acc)) := N2.out.set PL.out 1 _; clear hr hg)
          | (go_at_call 42; refine (TR1.out _ ML.out.li.rd).mono ?_; rintro e v1 ⟨rfl, hr, hg⟩; have N1 := hid_of (ML.out.read PL.out hr hg); have c1a : v1.cell? ⟨wr.heap.size, 0, none⟩ = some (.string ⟨#[]⟩) := N1.out.cell 0; have z1a := N1.out.fz 0; have M1 : Hid (MJ X0 (v1.setCell ⟨wr.heap.size, 0, none⟩ (.string t1.1)) (w.heap.size + 1) len cap (some ⟨q, off, none⟩) f 26 g w.heap.size (Sc.cells ⟨x1.1, sl2, sl, ⟨none, 0, 0⟩⟩) Sc.zero.cells t1.2 wr.heap.size #[.string t1.1, .int .i64 0, .int .i64 0, .bool false, .bool false] 69 69 5 (.slice sl.a sl.n sl.c) acc.length (flat vEnc acc)) := N1.out.set PL.out 0 _; clear hr hg))
        go_roundg g'
        case measure => omega
        case rel => exact ⟨i + 1, acc ++ [⟨t1.1, t2.1, t3.1, false, false⟩], t3.2, s', by simp, by omega, HNX.out.1, by rw [List.length_append, flat_snoc]; exact HNX.out.2.1, NX.out.1, by rw [List.length_append, NX.out.2]; rfl⟩
    case rest =>
      obtain ⟨acc3, sl3, H3⟩ := hcut
      have A3 := hid_of H3.out.2.1
      have R3r := hid_of H3.out.2.2
      have S3r := hid_of H3.out.1
      clear H3 S3 KR3 PL LB nb
      go_upto_block 4 with (go_at_call 43; refine (dnum_nat _ (w.heap.size + 1) len cap _ f x3.2 S3r.out.rd 100 (by omega) (by omega)).mono ?_; rintro e w6 ⟨nn, rfl, HN⟩; have S4 := hid_of (S3r.out.call HN.out.1 HN.out.2.1); have KR4 := hid_of (R3r.out.gb (by omega) HN.out.2.1))
      clear S3r R3r
      have PL := hid_of S4.out.pj
      have LB := hid_of HN.out.2.2
      have nb : nn ≤ 100 := by have := HN.out.2.2.2; omega
      clear HN
      go_cut [11] (fun s_ X => ∃ (acc : List (Pc × Sl)) (sl : Sl), Hid (SJ (W1 w q off len cap) X (w.heap.size + 1) len cap (some ⟨q, off, none⟩) f 26 g w.heap.size (Sc.cells ⟨x1.1, sl2, sl3, sl⟩) Sc.zero.cells x4.2 ∧ (x4.2.st = false → acc.map (·.1) = x4.1) ∧ R3 X (w.heap.size + 2) sl2 sl3 sl acc2 acc3 acc))
      case first =>
        obtain ⟨X0, hX0⟩ : ∃ X0, X0 = w6 := ⟨_, rfl⟩
        rw [← hX0] at S4 KR4 PL ⊢
        clear hX0
        have HW0 : Hid (w.heap.size + 2 ≤ X0.heap.size) := hid_of (by have := S4.out.gb.size; rw [W1_s] at this; exact this)
        have RR : Hid (x4 = loopS (pcS f len) nn [] (numS f len 100 x3.2).2) := hid_of (by rw [← E4.out, LB.out.1]; rfl)
        have LS : Hid (Lp (pcS f len) x4 nn [] (numS f len 100 x3.2).2) := hid_of (by rw [RR.out]; exact Lp.start _ _ _ fun e => by rw [LB.out.1, num_zero e]; rfl)
        clear RR LB
        generalize (numS f len 100 x3.2).2 = sa at *
        have L0 := hid_of (And.intro S4.out.lj (own_nil X0 X0.heap.size 63 3))
        go_wp2_with fail
        go_loopg [11] nn (fun gf s_ wx => ∃ (i : Nat) (acc : List (Pc × Sl)) (s : St) (sl : Sl), s_ = .int .i64 (i : Int) ∧ i + gf = nn ∧ Hid (LJ X0 wx (w.heap.size + 1) len cap (some ⟨q, off, none⟩) f 26 g w.heap.size (Sc.cells ⟨x1.1, sl2, sl3, sl⟩) Sc.zero.cells s ∧ wx.ownsRow X0.heap.size 63 3 (.slice sl.a sl.n sl.c) acc.length (flat pEnc acc) ∧ PsAt wx X0.heap.size acc ∧ Lp (pcS f len) x4 gf (acc.map (·.1)) s ∧ acc.length = i))
        case atStart => exact ⟨0, [], sa, ⟨none, 0, 0⟩, rfl, by omega, L0.out.1, L0.out.2, (fun p hp => by cases hp), LS.out, rfl⟩
        case round =>
          clear LS L0
          obtain ⟨i, acc, s, sl, rfl, hi, HL⟩ := hrel
          have FIN : Hid (gk = 0 ∨ s.st = true → ∃ (acc : List (Pc × Sl)) (sl : Sl), Hid (SJ (W1 w q off len cap) wr (w.heap.size + 1) len cap (some ⟨q, off, none⟩) f 26 g w.heap.size (Sc.cells ⟨x1.1, sl2, sl3, sl⟩) Sc.zero.cells x4.2 ∧ (x4.2.st = false → acc.map (·.1) = x4.1) ∧ R3 wr (w.heap.size + 2) sl2 sl3 sl acc2 acc3 acc)) := fun hm => by
            obtain ⟨l1, l2, lp, l3, l4⟩ := HL.out
            obtain ⟨f1, f2⟩ := l3.fin hm
            have r := KR4.out.lj l1 S4.out.bx (by omega)
            refine ⟨acc, sl, ?_, fun e => (f2 (by rw [← f1]; exact e)).symm, ⟨r.r2, r.r3, own_base l2 HW0.out, fun p hp => own_base (lp p hp) HW0.out⟩⟩
            rw [f1]
            exact S4.out.join l1
          by_cases hlt : i < nn
          rotate_left
          · have d1 : decide ((i : Int) < (nn : Int)) = false := decide_eq_false (by omega)
            have FF := hid_of (FIN.out (.inl (by omega)))
            clear FIN HL
            go_wp2
            go_meet
            exact FF.out
          have d1 : decide ((i : Int) < (nn : Int)) = true := decide_eq_true (by omega)
          obtain ⟨p, st⟩ := s
          cases st
          rotate_left
          · have d2 : decide ((p : Int) < 0) = false := decide_eq_false (by omega)
            have cb := HL.out.1.rd.c2s
            have FF := hid_of (FIN.out (.inr rfl))
            clear FIN HL
            go_wp2
            go_meet
            exact FF.out
          have cb := HL.out.1.rd.c2l
          obtain ⟨g', rfl⟩ : ∃ g', gk = g' + 1 := ⟨gk - 1, by omega⟩
          clear FIN
          have LD := hid_of (And.intro HL.out.1.drew (And.intro (own_drew HL.out.2.1) (PsAt.drewD HL.out.2.2.1)))
          have NX := hid_of (And.intro (HL.out.2.2.2.1.next rfl) HL.out.2.2.2.2)
          have TR : Hid (∀ X, RdD X (w.heap.size + 1) (some ⟨q, off, none⟩) len cap f ⟨p, false⟩ → Calls Tryd.prog 46 #[.pointer (some ⟨w.heap.size + 1, 0, none⟩)] X (PostPd X (w.heap.size + 1) (some ⟨q, off, none⟩) len cap f (pcS f len ⟨p, false⟩))) := fun X hX => dproc_any X (w.heap.size + 1) len cap _ f _ hX
          have cD : wr.drew.cell? ⟨g, 3, none⟩ = some (.slice sl.a sl.n sl.c) := LD.out.1.bx.cell 3
          clear HL
          generalize pcS f len ⟨p, false⟩ = t1 at *
          have AP : Hid (∀ X (y : Pc) (ys : Sl), LJ X0 X (w.heap.size + 1) len cap (some ⟨q, off, none⟩) f 26 g w.heap.size (Sc.cells ⟨x1.1, sl2, sl3, sl⟩) Sc.zero.cells t1.2 → X.ownsRow X0.heap.size 63 3 (.slice sl.a sl.n sl.c) acc.length (flat pEnc acc) → _) := hid_of fun X y ys hX ho => by
            obtain ⟨i0, hi0, hz0, hz1, hz2⟩ := info_parts info_prc3
            exact hX.app (j := 3) PL.out Tryd.underlying24 hi0 hz0 hz1 hz2 rfl (by omega) (by omega) (pEnc (y, ys)) rfl (by intro u hu; simp [pEnc] at hu; rcases hu with rfl | rfl | rfl <;> rfl) ho (by have := NX.out.2; omega) rfl
          go_wp2
          refine wp_region_held_drew (S := (fun _ => True)) (by kernel_rfl) trivial (fun hHeld => ?_)
          refine wpAnyH_take (i := 0) (v := ?_) rfl (by kernel_rfl) (by kernel_rfl) (by kernel_rfl) (fun _ _ _ h => h) (Or.inl ⟨by kernel_rfl, ?y0p⟩) hHeld ?r0p
          case y0p => (intro wq hSw; go_simp; try rfl)
          simp only [Act.put, List.setIfInBounds_toArray, List.set_cons_zero, List.set_cons_succ]
          refine wpAnyH_take (i := 2) (v := ?_) rfl (by kernel_rfl) (by kernel_rfl) (by kernel_rfl) (fun _ _ _ h => h) (Or.inl ⟨by kernel_rfl, ?y2p⟩) hHeld ?r2p
          case y2p => (intro wq hSw; go_simp; try rfl)
          simp only [Act.put, List.setIfInBounds_toArray, List.set_cons_zero, List.set_cons_succ]
          refine wpAnyH_ready (rs := [1, 3]) (by kernel_rfl) (by simp) ?_
          refine AllReadyH.cons rfl (fun K hK => ?_) (AllReadyH.cons rfl (fun K hK => ?_) AllReadyH.nil)
          · go_simp
            refine hK.out _ _ trivial (fun _ => ?_)
            clear hK K
            refine wpAnyH_ready (rs := [3]) (by kernel_rfl) (by simp) ?_
            refine AllReadyH.cons rfl (fun K hK => ?_) AllReadyH.nil
            go_simp
            go_wp2_with (go_at_call 46; refine (TR.out _ LD.out.1.rd).mono ?_; rintro e w5 ⟨y, ys, rfl, hy, how, hr, hg⟩; have HY := hid_of hy; obtain ⟨s', Y, hrun, cY, fY, cX, cA, HNX⟩ := AP.out w5 y ys (LD.out.1.read PL.out hr hg) (own_read LD.out.2.1 PL.out hg); have PN := hid_of (PsAt.nextD LD.out.2.2 PL.out hg (own_base how LD.out.1.size) HNX.out.2.2 (by decide)); simp only [pEnc] at hrun cA; clear hr hg hy how)
            refine hK.out _ _ trivial (fun _ => ?_)
            clear hK K
            refine wpAnyH_ready (rs := [4]) (by kernel_rfl) (by simp) ?_
            refine AllReadyH.cons rfl (fun K hK => ?_) AllReadyH.nil
            go_simp
            refine hK.out _ _ trivial (fun _ => ?_)
            clear hK K
            refine wpAnyH_ready (rs := [5]) (by kernel_rfl) (by simp) ?_
            refine AllReadyH.cons rfl (fun K hK => ?_) AllReadyH.nil
            go_simp
            refine hK.out _ _ trivial (fun _ => ?_)
            clear hK K
            refine wpAnyH_ready (rs := [6]) (by kernel_rfl) (by simp) ?_
            refine AllReadyH.cons rfl (fun K hK => ?_) AllReadyH.nil
            go_simp
            refine hK.out _ _ trivial (fun _ => ?_)
            clear hK K
            refine wpAnyH_ready (rs := [7]) (by kernel_rfl) (by simp) ?_
            refine AllReadyH.cons rfl (fun K hK => ?_) AllReadyH.nil
            go_simp
            refine hK.out _ _ trivial (fun _ => ?_)
            clear hK K
            refine wpAnyH_done (by kernel_rfl) ?_ _
            go_wp2_with fail
            go_roundg g'
            case measure => omega
            case rel => exact ⟨i + 1, acc ++ [(y, ys)], t1.2, s', by simp, by omega, HNX.out.1, by rw [List.length_append, flat_snoc]; exact HNX.out.2.1, PN.out, by rw [List.map_append]; exact NX.out.1.swap HY.out, by rw [List.length_append, NX.out.2]; rfl⟩
          · go_simp
            go_wp2_with (go_at_call 46; refine (TR.out _ LD.out.1.rd).mono ?_; rintro e w5 ⟨y, ys, rfl, hy, how, hr, hg⟩; have HY := hid_of hy; obtain ⟨s', Y, hrun, cY, fY, cX, cA, HNX⟩ := AP.out w5 y ys (LD.out.1.read PL.out hr hg) (own_read LD.out.2.1 PL.out hg); have PN := hid_of (PsAt.nextD LD.out.2.2 PL.out hg (own_base how LD.out.1.size) HNX.out.2.2 (by decide)); simp only [pEnc] at hrun cA; clear hr hg hy how)
            refine hK.out _ _ trivial (fun _ => ?_)
            clear hK K
            refine wpAnyH_ready (rs := [1, 4]) (by kernel_rfl) (by simp) ?_
            refine AllReadyH.cons rfl (fun K hK => ?_) (AllReadyH.cons rfl (fun K hK => ?_) AllReadyH.nil)
            · go_simp
              refine hK.out _ _ trivial (fun _ => ?_)
              clear hK K
              refine wpAnyH_ready (rs := [4]) (by kernel_rfl) (by simp) ?_
              refine AllReadyH.cons rfl (fun K hK => ?_) AllReadyH.nil
              go_simp
              refine hK.out _ _ trivial (fun _ => ?_)
              clear hK K
              refine wpAnyH_ready (rs := [5]) (by kernel_rfl) (by simp) ?_
              refine AllReadyH.cons rfl (fun K hK => ?_) AllReadyH.nil
              go_simp
              refine hK.out _ _ trivial (fun _ => ?_)
              clear hK K
              refine wpAnyH_ready (rs := [6]) (by kernel_rfl) (by simp) ?_
              refine AllReadyH.cons rfl (fun K hK => ?_) AllReadyH.nil
              go_simp
              refine hK.out _ _ trivial (fun _ => ?_)
              clear hK K
              refine wpAnyH_ready (rs := [7]) (by kernel_rfl) (by simp) ?_
              refine AllReadyH.cons rfl (fun K hK => ?_) AllReadyH.nil
              go_simp
              refine hK.out _ _ trivial (fun _ => ?_)
              clear hK K
              refine wpAnyH_done (by kernel_rfl) ?_ _
              go_wp2_with fail
              go_roundg g'
              case measure => omega
              case rel => exact ⟨i + 1, acc ++ [(y, ys)], t1.2, s', by simp, by omega, HNX.out.1, by rw [List.length_append, flat_snoc]; exact HNX.out.2.1, PN.out, by rw [List.map_append]; exact NX.out.1.swap HY.out, by rw [List.length_append, NX.out.2]; rfl⟩
            · go_simp
              refine hK.out _ _ trivial (fun _ => ?_)
              clear hK K
              refine wpAnyH_ready (rs := [1]) (by kernel_rfl) (by simp) ?_
              refine AllReadyH.cons rfl (fun K hK => ?_) AllReadyH.nil
              go_simp
              refine hK.out _ _ trivial (fun _ => ?_)
              clear hK K
              refine wpAnyH_ready (rs := [5]) (by kernel_rfl) (by simp) ?_
              refine AllReadyH.cons rfl (fun K hK => ?_) AllReadyH.nil
              go_simp
              refine hK.out _ _ trivial (fun _ => ?_)
              clear hK K
              refine wpAnyH_ready (rs := [6]) (by kernel_rfl) (by simp) ?_
              refine AllReadyH.cons rfl (fun K hK => ?_) AllReadyH.nil
              go_simp
              refine hK.out _ _ trivial (fun _ => ?_)
              clear hK K
              refine wpAnyH_ready (rs := [7]) (by kernel_rfl) (by simp) ?_
              refine AllReadyH.cons rfl (fun K hK => ?_) AllReadyH.nil
              go_simp
              refine hK.out _ _ trivial (fun _ => ?_)
              clear hK K
              refine wpAnyH_done (by kernel_rfl) ?_ _
              go_wp2_with fail
              go_roundg g'
              case measure => omega
              case rel => exact ⟨i + 1, acc ++ [(y, ys)], t1.2, s', by simp, by omega, HNX.out.1, by rw [List.length_append, flat_snoc]; exact HNX.out.2.1, PN.out, by rw [List.map_append]; exact NX.out.1.swap HY.out, by rw [List.length_append, NX.out.2]; rfl⟩
      case rest =>
        obtain ⟨acc4, sl4, H4⟩ := hcut
        have A4 := hid_of H4.out.2.1
        have R4r := hid_of H4.out.2.2
        have S4r := hid_of H4.out.1
        clear H4 S4 KR4 PL LB nb
        have EQ : Hid (x4.2.st = false → (⟨x1.1, acc2, acc3, acc4.map (·.1)⟩ : Sy) = ⟨x1.1, x2.1, x3.1, x4.1⟩) := hid_of fun e => by
          have s3 : x3.2.st = false := by have e := e; rw [← E4.out] at e; exact rowS_st e
          have s2 : x2.2.st = false := by have e := s3; rw [← E3.out] at e; exact rowS_st e
          rw [A4.out e, A3.out s3, A2.out s2]
        have hR := HR.out
        clear A2 A3 A4 E1 E2 E3 E4 HR
        obtain ⟨l4, p, st⟩ := x4
        simp only at hR
        have k1 : wc.cell? ⟨w.heap.size + 1, 1, none⟩ = some (.int .i64 (p : Int)) := S4r.out.rd.blk.cell 1
        have p0 : decide ((0 : Int) ≤ (p : Int)) = true := decide_eq_true (by omega)
        by_cases hp : p < len
        · have RET : Hid (decS f len = ((p : Int), 131)) := hid_of (by rw [hR, if_pos (.inr hp)])
          have p1 : decide ((p : Int) < (len : Int)) = true := decide_eq_true (by omega)
          clear hR RDQ EQ
          have WR : Hid (Calls Tryd.prog 47 #[.pointer (some ⟨w.heap.size + 1, 0, none⟩)] wc _) := hid_of (wrong_any _ (w.heap.size + 1) len cap _ f ⟨p, st⟩ S4r.out.rd)
          go_wp2_with (go_at_call 47; refine WR.out.mono ?_; rintro en w8 ⟨rfl, hr, hg⟩; have G6 := hid_of (S4r.out.call hr hg); have k6 := G6.out.rd.c2s; obtain ⟨Z2, z1, z2, HZ⟩ := G6.out.drew.ret Sc.zero; simp only [Sc.cells, Sc.zero] at z1; simp only [if_true] at z2; clear hr hg)
          go_region
          all_goals
            go_wp2_with fail
            refine ret_cell_tmp2 (p := 2) (q := 3) (r := 4) rfl rfl (load_blk HZ.out.1 Tryd.underlying26 rfl (by kernel_rfl)) rfl ?_
            exact postE_bad RET.out (by omega) HZ.out.2.1
        have p1 : decide ((p : Int) < (len : Int)) = false := decide_eq_false (by omega)
        cases st
        rotate_left
        · have RET : Hid (decS f len = ((p : Int), 131)) := hid_of (by rw [hR, if_pos (.inl rfl)])
          clear hR RDQ EQ
          have k6 := S4r.out.rd.c2s
          obtain ⟨Z2, z1, z2, HZ⟩ := S4r.out.drew.ret Sc.zero
          simp only [Sc.cells, Sc.zero] at z1
          simp only [if_true] at z2
          go_wp2_with fail
          go_region
          all_goals
            go_wp2_with fail
            refine ret_cell_tmp2 (p := 2) (q := 3) (r := 4) rfl rfl (load_blk HZ.out.1 Tryd.underlying26 rfl (by kernel_rfl)) rfl ?_
            exact postE_bad RET.out (by omega) HZ.out.2.1
        have k6 := S4r.out.rd.c2l
        have hR2 : decS f len = if rightP (⟨x1.1, x2.1, x3.1, l4⟩ : Sy) = true then (0, 0) else (0, 130) := by rw [hR, if_neg (by simp; omega)]
        have AT : Hid (SyAt wc (w.heap.size + 2) ⟨x1.1, sl2, sl3, sl4⟩ ⟨x1.1, x2.1, x3.1, l4⟩) := hid_of (by have := (R4r.out.at : SyAt wc (w.heap.size + 2) ⟨x1.1, sl2, sl3, sl4⟩ _); rw [EQ.out rfl] at this; exact this)
        have OBJ : Hid ((symS f len ⟨4, false⟩).1 = ⟨x1.1, x2.1, x3.1, l4⟩) := hid_of (by rw [SYE.out])
        obtain ⟨lr, hlr⟩ := RDQ.out _ _ _ AT.out
        have RG := hid_of (rright_any wc _ _ lr hlr)
        have lo1 : (ldT 26 ⟨g, 0, none⟩).run Tryd.prog wc = .ok (.agg #[.string x1.1, .slice sl2.a sl2.n sl2.c, .slice sl3.a sl3.n sl3.c, .slice sl4.a sl4.n sl4.c]) wc := ldT_run S4r.out.bx Tryd.underlying26 rfl (by kernel_rfl)
        simp only [Sc.cells] at RG
        clear hR EQ RDQ hlr
        generalize (⟨x1.1, x2.1, x3.1, l4⟩ : Sy) = oF at *
        cases hr : rightP oF
        · have RET : Hid (decS f len = (0, 130)) := hid_of (by rw [hR2, hr]; rfl)
          rw [hr] at RG
          clear hR2 hr
          go_wp2_with (go_at_call 16; refine RG.out.mono ?_; rintro en w8 ⟨rfl, hb5⟩; have D5 := hid_of (S4r.out.below hb5); obtain ⟨Z2, z1, z2, HZ⟩ := D5.out.ret Sc.zero; simp only [Sc.cells, Sc.zero] at z1; clear hb5)
          refine ret_cell_tmp2 (p := 2) (q := 3) (r := 4) rfl rfl (load_blk HZ.out.1 Tryd.underlying26 rfl (by kernel_rfl)) rfl ?_
          exact postE_bad RET.out (by omega) HZ.out.2.1
        · have RET : Hid (decS f len = (0, 0)) := hid_of (by rw [hR2, hr]; rfl)
          rw [hr] at RG
          clear hR2 hr
          go_wp2_with (go_at_call 16; refine RG.out.mono ?_; rintro en w8 ⟨rfl, hb5⟩; have D5 := hid_of (S4r.out.below hb5); have T5 := hid_of (AT.out.below hb5); have lo5 : (ldT 26 ⟨g, 0, none⟩).run Tryd.prog w8 = .ok (.agg #[.string x1.1, .slice sl2.a sl2.n sl2.c, .slice sl3.a sl3.n sl3.c, .slice sl4.a sl4.n sl4.c]) w8 := ldT_run D5.out.bx Tryd.underlying26 rfl (by kernel_rfl); obtain ⟨Z2, z1, z2, HZ⟩ := D5.out.ret ⟨x1.1, sl2, sl3, sl4⟩; simp only [Sc.cells] at z1; clear hb5)
          refine ret_cell_tmp2 (p := 2) (q := 3) (r := 4) rfl rfl (load_blk HZ.out.1 Tryd.underlying26 rfl (by kernel_rfl)) rfl ?_
          exact ⟨⟨x1.1, sl2, sl3, sl4⟩, by rw [RET.out]; rfl, HZ.out.2.1, (fun h => by rw [RET.out] at h; exact absurd rfl h), fun _ => ⟨w.heap.size + 2, by omega, by rw [OBJ.out]; exact HZ.out.2.2 _ _ _ (by omega) T5.out⟩⟩
end Go.Proofs.YtcppgpcgbggdcaaDoor

namespace Go.Proofs.YtcppgpcgbggdcaaDoor
set_option linter.unusedVariables false
set_option linter.unusedSimpArgs false
open Go.ChangeShapes Go.WideShapes Go.ChangeAt Go.RowKit
attribute [local go_sem ↓] ldS_seal stS_seal

set_option maxHeartbeats 4000000 in
set_option maxRecDepth 20000 in
theorem rdecode_long (w : World) (a : Option Addr) (len cap : Nat) (f : Nat → Int) (hl : 1048576 < len) (hfit : len ≤ 4611686018427387904) : Calls Tryd.prog 18 #[.slice a len cap] w (PostE w f len) := by
  have hR : decS f len = (0, 131) := by unfold decS; rw [if_neg (by omega)]
  obtain ⟨Z, hst, hz, ht⟩ := stT_run Sc.zero.cells (BA.new w 26 Sc.zero.cells) rfl (by kernel_rfl) (Sc.one _)
  have HB : Hid (Below w.heap.size w Z) := ((Below.refl _ _).alloc (Nat.le_refl _) _).trans (ht.bel (by simp) (Nat.le_refl _))
  have d1 : decide ((1048576 : Int) < (len : Int)) = true := decide_eq_true (by omega)
  have d2 : 1048576 < len := hl
  simp only [Sc.cells, Sc.zero] at hst
  go_enter Tryd.func18, Tryd.ntmps18
  go_wp2
  refine ret_cell_tmp2 (p := 2) (q := 3) (r := 4) rfl rfl (load_blk hz Tryd.underlying26 rfl (by kernel_rfl)) rfl ?_
  exact postE_bad hR (by omega) HB.out
set_option maxHeartbeats 4000000 in
set_option maxRecDepth 20000 in
theorem rdecode_short (w : World) (a : Option Addr) (len cap : Nat) (f : Nat → Int) (hl : len < 4) : Calls Tryd.prog 18 #[.slice a len cap] w (PostE w f len) := by
  have hR : decS f len = (0, 131) := by unfold decS; rw [if_neg (by omega)]
  obtain ⟨Z, hst, hz, ht⟩ := stT_run Sc.zero.cells (BA.new w 26 Sc.zero.cells) rfl (by kernel_rfl) (Sc.one _)
  have HB : Hid (Below w.heap.size w Z) := ((Below.refl _ _).alloc (Nat.le_refl _) _).trans (ht.bel (by simp) (Nat.le_refl _))
  have d1 : decide ((1048576 : Int) < (len : Int)) = false := decide_eq_false (by omega)
  have d2 : ¬ 1048576 < len := by omega
  have d3 : decide ((len : Int) < 4) = true := decide_eq_true (by omega)
  have d4 : len < 4 := hl
  simp only [Sc.cells, Sc.zero] at hst
  go_enter Tryd.func18, Tryd.ntmps18
  go_wp2
  refine ret_cell_tmp2 (p := 2) (q := 3) (r := 4) rfl rfl (load_blk hz Tryd.underlying26 rfl (by kernel_rfl)) rfl ?_
  exact postE_bad hR (by omega) HB.out
set_option maxHeartbeats 4000000 in
set_option maxRecDepth 20000 in
theorem rdecode_mark (w : World) (b off len cap : Nat) (f : Nat → Int) (h : Src w (some ⟨b, off, none⟩) len cap f) (hc : len ≤ cap) (hl : 4 ≤ len) (hl2 : len ≤ 1048576) (hm : strOfNums (bl f 4) ≠ markY) : Calls Tryd.prog 18 #[.slice (some ⟨b, off, none⟩) len cap] w (PostE w f len) := by
  have hR : decS f len = (0, 131) := by unfold decS; rw [if_neg (fun e => hm e.2.2)]
  obtain ⟨Z, hst, hz, ht⟩ := stT_run Sc.zero.cells (BA.new w 26 Sc.zero.cells) rfl (by kernel_rfl) (Sc.one _)
  have HB : Hid (Below w.heap.size w Z) := ((Below.refl _ _).alloc (Nat.le_refl _) _).trans (ht.bel (by simp) (Nat.le_refl _))
  have d1 : decide ((1048576 : Int) < (len : Int)) = false := decide_eq_false (by omega)
  have d2 : ¬ 1048576 < len := by omega
  have d3 : decide ((len : Int) < 4) = false := decide_eq_false (by omega)
  have d4 : ¬ len < 4 := by omega
  have d5 : (4 : Int) ≤ (cap : Int) := by omega
  have d6 : 4 ≤ cap := by omega
  have hv := conv4 h (X := w.alloc (.cells Sc.zero.cells 26)) (by go_grown) (by omega)
  unfold markY at hm
  generalize strOfNums (bl f 4) = S4 at hv hm
  have hm2 : (S4.toList == [67, 82, 83, 49]) = false := by rw [Lib.toList_data]; simp only [beq_eq_false_iff_ne, ne_eq]; exact fun e => hm (by cases S4 with | mk d => cases d with | mk l => exact congrArg (fun t => ByteArray.mk ⟨t⟩) e)
  clear h
  simp only [Sc.cells, Sc.zero] at hst hv
  go_enter Tryd.func18, Tryd.ntmps18
  go_wp2
  refine ret_cell_tmp2 (p := 2) (q := 3) (r := 4) rfl rfl (load_blk hz Tryd.underlying26 rfl (by kernel_rfl)) rfl ?_
  exact postE_bad hR (by omega) HB.out
theorem rdecode_any (w : World) (a : Option Addr) (len cap : Nat) (f : Nat → Int) (h : Src w a len cap f) (hc : len ≤ cap) : Calls Tryd.prog 18 #[.slice a len cap] w (PostE w f len) := by
  have hfit := h.fit
  by_cases h1 : 1048576 < len
  · exact rdecode_long w a len cap f h1 (by omega)
  by_cases h2 : len < 4
  · exact rdecode_short w a len cap f h2
  obtain ⟨b, off, rfl⟩ := h.some (by omega)
  by_cases hm : strOfNums (bl f 4) = markY
  · exact rdec_main w b off len cap f h hc (by omega) (by omega) hm
  · exact rdecode_mark w b off len cap f h hc (by omega) (by omega) hm
end Go.Proofs.YtcppgpcgbggdcaaDoor

namespace Go.Proofs.YtcppgpcgbggdcaaDoor
set_option linter.unusedVariables false
set_option linter.unusedSimpArgs false
open Go.ChangeShapes Go.WideShapes Go.ChangeAt Go.RowKit
attribute [local go_sem ↓] ldS_seal stS_seal appN_seal mkN_seal

/-- A row of bytes of the call's own, with room behind. -/
theorem mine_row (w X : World) (a : Option Addr) (len cap : Nat) (f : Nat → Int) (h : Src w a len cap f) (hX : Below w.heap.size w X) : ∃ (Y3 Y4 : World) (ga : Option Addr) (gn gc : Nat), (mkN 30 (.int .i64 0) (.int .i64 ((len : Int) + 8))).run Tryd.prog X = .ok (.slice (some ⟨X.heap.size, 0, none⟩) 0 (len + 8)) Y3 ∧ (appN #[30, 30] 30 #[.slice (some ⟨X.heap.size, 0, none⟩) 0 (len + 8), .slice a len cap]).run Tryd.prog Y3 = .ok (.slice ga gn gc) Y4 ∧ Hid (Ow Y4 w.heap.size (.slice ga gn gc) (bl f len) ∧ Below w.heap.size w Y4) := by
  have hfit := h.fit
  obtain ⟨Y3, r3, o3, g3⟩ := make_row X w.heap.size (len + 8) hX.size (by omega)
  have bY3 : Below w.heap.size w Y3 := hX.trans ((gb_none g3).mono hX.size)
  by_cases h0 : len = 0
  · subst h0
    obtain ⟨i0, hi0, hz0, hz1, hz2⟩ := info_parts info5
    refine ⟨Y3, Y3, some ⟨X.heap.size, 0, none⟩, 0, 0 + 8, by simpa using r3, ?_, o3, bY3⟩
    unfold appN
    cases a with
    | none => simp [Builtin.append_, run_underlying Tryd.underlying30, sizeOf, typeInfo, hi0, hz1, Builtin.lenOf, run_firstCells_none, storeCells, Addr.add_lit]
    | some ad => simp [Builtin.append_, run_underlying Tryd.underlying30, sizeOf, typeInfo, hi0, hz1, Builtin.lenOf, Builtin.firstCells, loadCells, loadCellsFrom, storeCells, Addr.add_lit]
  · obtain ⟨v4, Y4, r4, o4, g4⟩ := app_bytes (X := Y3) a len cap f o3 (h.below bY3).rd h.nil bY3.size (by simp; omega) (.inr (by omega))
    rw [List.nil_append] at o4
    obtain ⟨va, vn, vc, rfl⟩ := own_slice o4
    exact ⟨Y3, Y4, va, vn, vc, by simpa using r3, r4, o4, gb_low bY3 g4 (fun k e => own_lo o3 k e)⟩

set_option maxHeartbeats 8000000 in
set_option maxRecDepth 20000 in
theorem reads_any (w : World) (hv : Vs w) (a : Option Addr) (len cap : Nat) (f : Nat → Int) (h : Src w a len cap f) (hcap : len ≤ cap) : Calls Tryd.prog 4 #[.slice a len cap] w fun e w' => e = .returned (.bool true) ∧ Below w.heap.size w w' := by
  have hfit := h.fit
  have SH : Hid (Calls Tryd.prog 8 #[] w _) := shown_any w hv
  have MK : Hid (∀ X, Below w.heap.size w X → _) := hid_of fun X hX => mine_row w X a len cap f h hX
  have hall : AllB (bl f len) := bl_by h.oct
  have hsF := src_bl h
  have hrd : Hid (∀ X, Below w.heap.size w X → (convert 30 9 (.slice a len cap)).run Tryd.prog X = .ok (.string (strOfNums (bl f len))) X) := hid_of fun X hX => conv_rd cap (h.below hX).rd
  obtain ⟨L, hL⟩ : ∃ L, L = bl f len := ⟨_, rfl⟩
  have hll : L.length = len := by rw [hL, bl_len]
  rw [← hL] at hall hsF hrd MK
  have hoct : Oct (fun i => L.getD i 0) L.length := fun i _ => getd_by hall i
  have FEW : Hid ((decS (fun i => L.getD i 0) L.length).2 = 0 → In (symS (fun i => L.getD i 0) L.length ⟨4, false⟩).1) := hid_of fun e => in_right (dec_good e).2.2.2.2.2.1
  have DA : ∀ X B ga gn gc, Below w.heap.size w X → Ow X B (.slice ga gn gc) L → Calls Tryd.prog 17 #[.slice ga gn gc] X (PostE X (fun i => L.getD i 0) L.length) := fun X B ga gn gc hb hX => decode_own (hv.below hb hv.big) hX hall (by omega)
  have DB : ∀ X, Below w.heap.size w X → Calls Tryd.prog 18 #[.slice a len cap] X (PostE X (fun i => L.getD i 0) L.length) := fun X hX => by rw [hll]; exact rdecode_any X a len cap _ (hsF.below hX) hcap
  unfold PostE at DA DB
  generalize (decS (fun i => L.getD i 0) L.length).1 = pl at *
  generalize (decS (fun i => L.getD i 0) L.length).2 = er at *
  generalize (symS (fun i => L.getD i 0) L.length ⟨4, false⟩).1 = oo at *
  have D1 : Hid (∀ X ga gn gc, Ow X w.heap.size (.slice ga gn gc) L ∧ Below w.heap.size w X → Calls Tryd.prog 17 #[.slice ga gn gc] X fun e Y => ∃ (c : Sc) (Z : World), e = .returned (.tuple #[.agg c.cells, .int .i64 pl, .int .i64 er]) ∧ (stT 26 ⟨Y.heap.size, 0, none⟩ (.agg c.cells)).run Tryd.prog (Y.alloc (.cells Sc.zero.cells 26)) = .ok () Z ∧ Hid (F1 w Z Y.heap.size c er oo (.slice ga gn gc) L X.heap.size Y.heap.size)) := hid_of fun X ga gn gc hX => (DA X _ ga gn gc hX.2 hX.1).mono fun e Y hh => by
    obtain ⟨c, h1, h2, h3, h4⟩ := hh
    obtain ⟨Z, z1, z2, z3⟩ := stT_run c.cells (BA.new Y 26 Sc.zero.cells) rfl (by kernel_rfl) (Sc.one _)
    have hwY : Below w.heap.size w Y := hX.2.trans (h2.mono hX.2.size)
    have bZ := bel_put rfl z3
    exact ⟨c, Z, h1, z1, z2, ⟨h3, fun e => by obtain ⟨B, hB, hO⟩ := h4 e; exact ⟨Y, B, rfl, Nat.le_of_lt hB, hO, bZ⟩⟩, hwY.trans (bZ.mono hwY.size), ow_belowx (ow_belowx hX.1 h2) bZ, fun g hg => own_wlt hX.1 g hg, hX.2.size, h2.size, Nat.le_refl _⟩
  have D2 : Hid (∀ X k1 c1 v V U, F1 w X k1 c1 er oo v L V U → Calls Tryd.prog 18 #[.slice a len cap] X fun e Y => ∃ (c : Sc) (Z : World), e = .returned (.tuple #[.agg c.cells, .int .i64 pl, .int .i64 er]) ∧ (stT 26 ⟨Y.heap.size, 0, none⟩ (.agg c.cells)).run Tryd.prog (Y.alloc (.cells Sc.zero.cells 26)) = .ok () Z ∧ Hid (F1 w Z k1 c1 er oo v L V U ∧ F2 w Z Y.heap.size c er oo U)) := hid_of fun X k1 c1 v V U hX => (DB X hX.be).mono fun e Y hh => by
    obtain ⟨c, h1, h2, h3, h4⟩ := hh
    obtain ⟨Z, z1, z2, z3⟩ := stT_run c.cells (BA.new Y 26 Sc.zero.cells) rfl (by kernel_rfl) (Sc.one _)
    have bZ := bel_put rfl z3
    have hY := hX.below h2
    have hlt := hX.ob.lt
    have hs := h2.size
    have ho := hX.ord
    exact ⟨c, Z, h1, z1, hY.below bZ, z2, h3, fun e => by obtain ⟨B, hB, hO⟩ := h4 e; exact ⟨B, by omega, hO.below bZ⟩, (hY.below bZ).be, by omega⟩
  have S1 : Hid (∀ X k1 c1 v V U k2 c2, F1 w X k1 c1 er oo v L V U ∧ F2 w X k2 c2 er oo U → Calls Tryd.prog 15 #[.agg c1.cells, .agg c2.cells] X fun e Y => e = .returned (.bool true) ∧ Hid (F1 w Y k1 c1 er oo v L V U ∧ F2 w Y k2 c2 er oo U)) := hid_of fun X k1 c1 v V U k2 c2 hX => (same_qy hX.1.nc.qy hX.2.qy FEW.out).mono fun e Y hh => ⟨hh.1, hX.1.below hh.2, hX.2.below hh.2⟩
  have SP : Hid (∀ X k1 c1 v V U k2 c2, F1 w X k1 c1 er oo v L V U ∧ F2 w X k2 c2 er oo U → Calls Tryd.prog 19 #[.agg c1.cells] X fun e Y => e = .returned (.tuple #[]) ∧ Hid (Ow Y w.heap.size v L ∧ F2 w Y k2 c2 er oo U)) := hid_of fun X k1 c1 v V U k2 c2 hX => (nc_spoil hX.1.nc).mono fun e Y hh => ⟨hh.1, hh.2.own hX.1.mi fun g hg => by have := hX.1.lo g hg; omega, hX.2.tq hX.1.ord.1 hh.2⟩
  have D3 : Hid (∀ X ga gn gc k2 c2 U, Ow X w.heap.size (.slice ga gn gc) L ∧ F2 w X k2 c2 er oo U → Calls Tryd.prog 17 #[.slice ga gn gc] X fun e Y => ∃ (c : Sc) (Z : World), e = .returned (.tuple #[.agg c.cells, .int .i64 pl, .int .i64 er]) ∧ (stT 26 ⟨Y.heap.size, 0, none⟩ (.agg c.cells)).run Tryd.prog (Y.alloc (.cells Sc.zero.cells 26)) = .ok () Z ∧ (convert 30 9 (.slice ga gn gc)).run Tryd.prog Z = .ok (.string (strOfNums L)) Z ∧ Hid (BA Z Y.heap.size 26 c.cells ∧ QY Z c er oo ∧ F2 w Z k2 c2 er oo U)) := hid_of fun X ga gn gc k2 c2 U hX => (DA X _ ga gn gc hX.2.be hX.1).mono fun e Y hh => by
    obtain ⟨c, h1, h2, h3, h4⟩ := hh
    obtain ⟨Z, z1, z2, z3⟩ := stT_run c.cells (BA.new Y 26 Sc.zero.cells) rfl (by kernel_rfl) (Sc.one _)
    have bZ := bel_put rfl z3
    exact ⟨c, Z, h1, z1, conv_ow (ow_belowx (ow_belowx hX.1 h2) bZ) Z (fun _ _ _ => rfl), z2, QY.below ⟨h3, fun e => by obtain ⟨B, hB, hO⟩ := h4 e; exact ⟨B, hO⟩⟩ bZ, (hX.2.below h2).below bZ⟩
  have S2 : Hid (∀ X c k2 c2 U, QY X c er oo ∧ F2 w X k2 c2 er oo U → Calls Tryd.prog 15 #[.agg c.cells, .agg c2.cells] X fun e Y => e = .returned (.bool true) ∧ Below w.heap.size w Y) := hid_of fun X c k2 c2 U hX => (same_qy hX.1 hX.2.qy FEW.out).mono fun e Y hh => ⟨hh.1, hX.2.be.trans (hh.2.mono hX.2.be.size)⟩
  clear FEW hoct DA DB hsF hL hall hll h hv
  generalize strOfNums L = SS at D3 hrd
  simp only [show Sc.zero.cells = #[.string ⟨#[]⟩, .slice none 0 0, .slice none 0 0, .slice none 0 0] from rfl] at D1 D2 D3
  have b1 : (pl == pl) = true := by simp
  have b2 : (er == er) = true := by simp
  have e1 : IntKind.i64.wrap ((len : Int) + 8) = (len : Int) + 8 := by rw [IntWalk.i64_left, IntWalk.wrap64_in] <;> omega
  go_enter Tryd.func4, Tryd.ntmps4
  go_wp2_with (first
    | (go_at_call 8; refine SH.out.mono ?_; rintro e w1 ⟨rfl, hb1⟩; obtain ⟨Y3, Y4, ga, gn, gc, r3, r4, HM⟩ := MK.out w1 hb1; clear hb1)
    | (have hx := HP; clear hx; go_at_call 17; refine (D3.out _ _ _ _ _ _ _ HP.out).mono ?_; rintro e w7 ⟨c3, Z3, rfl, z3, cv1, HQ⟩; have lo5 := ldT_run HQ.out.1 Tryd.underlying26 rfl (by kernel_rfl); have lo6 := ldT_run HQ.out.2.2.ob Tryd.underlying26 rfl (by kernel_rfl); have cv2 := hrd.out _ HQ.out.2.2.be)
    | (go_at_call 17; refine (D1.out _ _ _ _ HM.out).mono ?_; rintro e w3 ⟨c1, Z1, rfl, z1, HD⟩; have lo1 := ldT_run HD.out.ob Tryd.underlying26 rfl (by kernel_rfl))
    | (go_at_call 18; refine (D2.out _ _ _ _ _ _ HD.out).mono ?_; rintro e w4 ⟨c2, Z2, rfl, z2, HE⟩; have lo2 := ldT_run HE.out.1.ob Tryd.underlying26 rfl (by kernel_rfl); have lo3 := ldT_run HE.out.2.ob Tryd.underlying26 rfl (by kernel_rfl))
    | (have hx := HQ; clear hx; go_at_call 15; refine (S2.out _ _ _ _ _ ⟨HQ.out.2.1, HQ.out.2.2⟩).mono ?_; rintro e w8 ⟨rfl, hb8⟩)
    | (go_at_call 15; refine (S1.out _ _ _ _ _ _ _ _ HE.out).mono ?_; rintro e w5 ⟨rfl, HG⟩; have lo4 := ldT_run HG.out.1.ob Tryd.underlying26 rfl (by kernel_rfl))
    | (go_at_call 19; refine (SP.out _ _ _ _ _ _ _ _ HG.out).mono ?_; rintro e w6 ⟨rfl, HP⟩))
  go_ret
  exact ⟨rfl, hb8⟩
end Go.Proofs.YtcppgpcgbggdcaaDoor

namespace Go.Proofs.YtcppgpcgbggdcaaDoor
set_option linter.unusedVariables false
set_option linter.unusedSimpArgs false
open Go.ChangeShapes Go.WideShapes Go.ChangeAt Go.RowKit

theorem at_of {l : List Value} {k : Nat} {v : Value} (h : (l.drop k).take 1 = [v]) : l[k]? = some v := by
  have : ((l.drop k).take 1)[0]? = some v := by rw [h]; rfl
  simpa using this
theorem some_of {α : Type} {xs : List α} {n i : Nat} (h : xs.length = n) (hi : i < n) : ∃ y, xs[i]? = some y := ⟨xs[i]'(by omega), List.getElem?_eq_getElem (by omega)⟩
theorem Tryd.cells3 : Tryd.prog.cellsOf 3 = 1 := by kernel_rfl
/-- One listed variable: its block, its cells, what they read as. -/
def OneIs (W : World) (n : String) (d : DataW Unit) : Prop := ∃ g t cs fuel p, Tryd.prog.globalNamed n = some g ∧ (Tryd.prog.globals[g]?).map (·.type) = some t ∧ W.var? Tryd.prog n = some cs ∧ DataW.trod (fun _ => ()) Tryd.prog W 0 (fun _ => true) false fuel t cs.toList = some (d, p)
theorem laid_each {W : World} : ∀ {l : List (String × DataW Unit)} {ps : List MemPlace}, DataW.LaidVars Tryd.prog W l ps → ∀ x ∈ l, OneIs W x.1 x.2
  | [], _, _, x, hx => by cases hx
  | (n, d) :: r, ps, ⟨g, t, cs, fuel, p, q, h1, h2, h3, h4, h5, _⟩, x, hx => by
    rcases List.mem_cons.1 hx with rfl | hx
    · exact ⟨g, t, cs, fuel, p, h1, h2, h3, h4⟩
    · exact laid_each h5 x hx
theorem sizes_eq : (Rows.laid_carrel_types_basicSizes : DataW Unit) = .agg (sizesL.map fun n => .lit (.int .i64 n)) := rfl
theorem sizes_at : ∀ i, i < 8 → (sizesL.map fun n => (.lit (.int .i64 n) : DataW Unit))[i]? = some (.lit (.int .i64 (sizesL.getD i 0)))
  | 0, _ => rfl
  | 1, _ => rfl
  | 2, _ => rfl
  | 3, _ => rfl
  | 4, _ => rfl
  | 5, _ => rfl
  | 6, _ => rfl
  | 7, _ => rfl
  | _ + 8, h => absurd h (by omega)
theorem vs_of {W : World} (h : OneIs W "carrel/types.basicSizes" Rows.laid_carrel_types_basicSizes) : Vs W := by
  rw [sizes_eq] at h
  obtain ⟨g', t', cs, fuel, p, h1, h2, h3, h4⟩ := h
  obtain rfl := Option.some.inj ((show Tryd.prog.globalNamed "carrel/types.basicSizes" = some 0 by kernel_rfl).symm.trans h1)
  obtain rfl := Option.some.inj ((show (Tryd.prog.globals[0]?).map (·.type) = some 147 by kernel_rfl).symm.trans h2)
  obtain ⟨xs, k, _, ex, _, hl, hel⟩ := DataW.trod_array Tryd.underlying147 h4
  have e1 : sizesL.map (fun n => (.lit (.int .i64 n) : DataW Unit)) = xs.map (·.1) := by have := (Prod.mk.inj ex).1; simpa using this
  have key : ∀ o, o < 8 → W.cell? ⟨0, o, none⟩ = some (.int .i64 (sizesL.getD o 0)) := by
    intro o ho
    obtain ⟨y, hy⟩ := some_of hl ho
    have hE := hel o ho
    rw [hy, Tryd.cells3] at hE
    obtain ⟨z, e2, e3, _⟩ := DataW.trod_int Tryd.underlying3 hE
    have h5 := at_of e2
    rw [World.var?_cell (show Tryd.prog.globalNamed "carrel/types.basicSizes" = some 0 by kernel_rfl) h3 o]
    have h6 : cs[o]? = some (.int .i64 z) := by simpa using h5
    rw [h6]
    have h7 := sizes_at o ho
    rw [e1, List.getElem?_map, hy] at h7
    simp only [Option.map_some, Option.some.injEq, e3, DataW.lit.injEq, Lit.int.injEq] at h7
    rw [h7.2]
  exact ⟨World.block_lt_of_cell? W _ (key 0 (by omega)), key⟩
theorem vs_laid {l : List (String × DataW Unit)} {W : World} (hl : l = [("carrel/types.basicSizes", Rows.laid_carrel_types_basicSizes)]) (h : laidMetH Tryd.prog l W) : Vs W := by
  subst hl
  rw [MakeChecks.laidMetH_plain _ _ _ (by kernel_rfl)] at h
  obtain ⟨ps, hl, _⟩ := h
  exact vs_of (laid_each hl ("carrel/types.basicSizes", Rows.laid_carrel_types_basicSizes) (by simp))
/-- .. told besides that what comes in is not too large. -/
theorem returns_sized {C : Checked} {H : Type} {enc : TypeId × Value → H} {os : Os} {f : FuncId} {fn : Func} {s : ChangeSpec} {X : World → Array Value → Prop} (hX : ∀ (w w' : World) (args : Array Value), w.heap = w'.heap → X w args → X w' args)
    (own : ownKnob C.prog.godebug = none) (started : os.Started) (noInit : C.prog.inits.idxOf? f = none) (hfn : C.prog.funcs[f]? = some fn)
    (witness : ∃ (w : World) (tape : Tape) (i : Input), w.os = os ∧ (w.forCall tape i).Shaped C.prog ∧ i.vars = [] ∧ Input.okWide C.prog (w.forCall tape i) .any w.heap.size f i ∧
      ((s.pre enc C.prog fn [] false (w.forCall tape i).memory i.args ∧ X (w.forCall tape i).memory i.args) ∧ sizedMet enc C.prog fn (OpenSpec.ofChange s) false (w.forCall tape i).memory i.args) ∧ ({} : Assume).holds C.prog (lone (Frame.enter C.prog f i.args .normal) [] (w.forCall tape i)))
    (K : ∀ (W : World) (base : Nat) (args : Array Value) (ds gs : List (DataW H)) (before : List MemPlace), W.ShapedOpen C.prog → X W args →
      (∀ (j : Nat) t v, fn.params[j]? = some t → args[j]? = some v → Value.okWide C.prog W .any base t v) → DataW.Whole enc C.prog fn.params.toList s.vars false W args.toList ds gs before →
      (∃ ds' gs' before', DataW.Whole enc C.prog fn.params.toList s.vars false W args.toList ds' gs' before' ∧ (DataW.weightsEach C.prog (fn.params.toList ++ (OpenSpec.ofChange s).bare.plain.varTypes C.prog) (ds' ++ gs')).all (· ≤ reachBytes) = true) →
      Calls C.prog f args W fun e W' => ∃ v, e = .returned v ∧ s.post enc C.prog fn false true false false W args v W') :
    ReturnsInHanded {} C os f .any (fun w args => (s.pre enc C.prog fn [] false w args ∧ X w args) ∧ sizedMet enc C.prog fn (OpenSpec.ofChange s) false w args) (s.post enc C.prog fn false true false false) := by
  refine returnsInHanded_of_calls own started noInit witness fun w tape i _ hS _ ok pre _ => ?_
  obtain ⟨_, _, _, fn', h', _, _, _, _, hv⟩ := ok
  obtain rfl : fn' = fn := Option.some.inj (h'.symm.trans hfn)
  obtain ⟨⟨⟨ds, gs, before, hw, _⟩, hx⟩, _, ds', gs', before', hw', hz'⟩ := pre
  refine (K (w.forCall tape i) w.heap.size i.args ds gs before hS (hX _ _ _ (by rfl) hx) hv (DataW.Whole.of_heap (w' := w.forCall tape i) (by rfl) hw) ⟨ds', gs', before', DataW.Whole.of_heap (w' := w.forCall tape i) (by rfl) hw', hz'⟩).mono fun e W' ⟨v, he, hp⟩ => ?_
  subst he
  exact ChangeSpec.post_blind hp
theorem ownK : ownKnob Tryd.prog.godebug = none := by kernel_rfl
theorem laidOutB8 : laidOutB Tryd.prog = true := by kernel_rfl
end Go.Proofs.YtcppgpcgbggdcaaDoor

namespace Go.Proofs.YtcppgpcgbggdcaaDoor
open Go.ChangeShapes Go.WideShapes Go.ChangeAt Go.RowKit
set_option linter.unusedVariables false

theorem bytes5 : Tryd.prog.bytesOf 5 = 1 := by kernel_rfl
def IsRow (k : IntKind) (w : World) (a : Option Addr) (len cap : Nat) (zs : List Int) : Prop :=
  (a = none ∧ len = 0 ∧ cap = 0 ∧ zs = []) ∨
  ∃ x, a = some x ∧ len ≤ cap ∧ cap ≤ maxLen ∧ zs.length = cap ∧ (∀ i, i < zs.length → w.cell? (x.add i) = some (.int k (zs.getD i 0))) ∧ ∀ n ∈ zs, (Lit.int k n).wf = true
theorem src_of {w : World} {a : Option Addr} {len cap : Nat} {zs : List Int} (h : IsRow .u8 w a len cap zs) (hl : len ≤ 140737488351232) : Src w a len cap (fun i => zs.getD i 0) ∧ len ≤ cap := by
  refine ⟨⟨rdb_of_row h, ?_, hl⟩, ?_⟩
  · rcases h with ⟨_, h1, h2, _⟩ | ⟨x, rfl, _⟩
    · exact fun _ => ⟨h1, h2⟩
    · exact fun h => by cases h
  · rcases h with ⟨_, h1, h2, _⟩ | ⟨x, _, h1, _⟩
    · omega
    · exact h1

namespace symReads
set_option maxRecDepth 100000 in
theorem lifted (os : Os) (started : os.Started) (H : Type) (enc : TypeId × Value → H) :
    ReturnsInHanded {} Tryd.checked os 4 .any (fun w args => (Rows.symReadsSpec.pre enc Tryd.prog Tryd.f4 [] false w args ∧ laidMetH Tryd.prog Rows.symReadsRow.laid w) ∧ sizedMet enc Tryd.prog Tryd.f4 (OpenSpec.ofChange Rows.symReadsSpec) false w args)
      (Rows.symReadsSpec.post enc Tryd.prog Tryd.f4 false true false false) := by
  refine returns_sized (C := Tryd.checked) (X := fun w _ => laidMetH Tryd.prog Rows.symReadsRow.laid w) (fun _ _ _ hh h => h.of_heap hh) ownK started (by kernel_rfl) Tryd.func4
    (ChangeSpec.witness_shaped (enc := enc) (C := Tryd.checked) (os := os) (X := fun w _ => laidMetH Tryd.prog Rows.symReadsRow.laid w) false (World.laidAll Tryd.prog os Rows.symReadsRow.laid) #[.slice none 0 0] 8 (World.laidAll_os _ _ _)
      (World.shaped_of_ZipB (by kernel_rfl) (by kernel_rfl)) (by kernel_rfl) (by kernel_rfl) (by kernel_rfl)
      (by rw [MakeChecks.laidMetH_plain _ _ _ (by kernel_rfl)]; exact laidMet_laidAll _ (by kernel_rfl) (by kernel_rfl))) ?_
  intro W base args ds gs before hS hL hval0 hW hZ
  have V := vs_laid rfl hL
  clear hS hL
  have hval : ∀ (j : Nat) t v, Tryd.f4.params[j]? = some t → args[j]? = some v → Value.okWide Tryd.prog W .any base t v := hval0
  have hW' := hW
  obtain ⟨p, q, hA0, hV, rfl, hfz, hnd⟩ := hW
  have hA : DataW.TrodAll enc Tryd.prog W 0 (fun _ => true) true Tryd.f4.params.toList args.toList ds p := hA0
  rw [Tryd.params4] at hA hval
  obtain ⟨v0, vs0, d0, ds0, p0, q0, hargs, rfl, rfl, h0, r0⟩ := trodAll_cons hA
  obtain ⟨rfl, rfl, rfl⟩ := trodAll_nil r0
  obtain rfl : args = #[v0] := by cases args; simp_all
  obtain ⟨rfl, rfl⟩ := trodVars_none hV
  obtain ⟨a0, len0, cap0, rfl⟩ := okWide_slice Tryd.underlying30 (hval 0 30 v0 rfl rfl)
  have k0 := h0
  have lt0 : ∀ x ∈ p0, x.block < W.heap.size := by obtain ⟨m, hm⟩ := k0; exact DataW.trod_lt m _ _ _ hm
  obtain ⟨z0, w0, hreach⟩ : ∃ zs, IsRow .u8 W a0 len0 cap0 zs ∧ len0 ≤ 140737488351232 := by
    obtain ⟨es, gs', before', ⟨p', q', hB0, hV', _⟩, hsz⟩ := hZ
    have hB : DataW.TrodAll enc Tryd.prog W 0 (fun _ => true) true Tryd.f4.params.toList [.slice a0 len0 cap0] es p' := hB0
    rw [Tryd.params4] at hB hsz
    obtain ⟨_, _, e0, _, _, _, hx, rfl, rfl, kk, k1⟩ := trodAll_cons hB
    obtain ⟨rfl, rfl⟩ := List.cons.inj hx
    obtain ⟨fuel, hf⟩ := kk
    rcases open_ints Tryd.underlying30 Tryd.underlying5 (by kernel_rfl) hf with ⟨hcs, _⟩ | ⟨x, l, c, zs, hcs, _, hl, hm, hz, hx, hcell, hwz⟩
    · simp [Value.cells] at hcs
      obtain ⟨rfl, rfl, rfl⟩ := hcs
      exact ⟨[], .inl ⟨rfl, rfl, rfl, rfl⟩, by omega⟩
    · simp [Value.cells] at hcs
      obtain ⟨rfl, rfl, rfl⟩ := hcs
      have hz' : zs.length = cap0 := by simpa using hz
      refine ⟨zs, .inr ⟨_, rfl, hl, hm, hz', hcell, hwz⟩, ?_⟩
      simp only [Prod.mk.injEq] at hx
      obtain ⟨rfl, rfl⟩ := hx
      have hw := sized_slice hsz (j := 0) (t := 30) (e := 5) rfl rfl Tryd.underlying30
      change _ * Tryd.prog.bytesOf 5 ≤ _ at hw
      rw [bytes5] at hw
      simp only [lits, List.length_map, List.length_take, List.length_drop, reachBytes] at hw
      omega
  obtain ⟨hsrc, hcap⟩ := src_of w0 hreach
  clear hA0 hval0 hZ
  refine (reads_any W V a0 len0 cap0 _ hsrc hcap).mono fun e W' ⟨he, bel⟩ => ?_
  subst he
  exact ⟨_, rfl, _, _, _, [], _, [], hW', trodAll_mk1 (shut_bool Tryd.underlying4 _), (trodAll_cons_mk (Below.trod laidOutB8 (by kernel_rfl) (of_decide_eq_true (by kernel_rfl)) k0 bel lt0) trodAll_mk0), rfl, bel.frame _, fun h => by cases h⟩

theorem over : Rows.SymReadsSaid :=
  OpenClaim.holds_of_wide 4 Tryd.f4 rfl rfl rfl rfl rfl rfl rfl ⟨rfl, rfl, rfl, rfl, rfl⟩ rfl rfl rfl rfl rfl (by kernel_rfl) Tryd.func4 (by kernel_rfl)
    (of_decide_eq_true (by kernel_rfl)) (by unfold Func.isWrapper; first | (rw [if_pos (by decide +kernel)]; kernel_rfl) | (rw [if_neg (by decide +kernel)]; exact ⟨rfl, rfl⟩))
    (fun os started H enc _ => lifted os started H enc)
end symReads
/-- The given card. -/
theorem symReads_holds : Rows.SymReadsCardSaid :=
  Claim7.holds_tied_plain_at .later [] _ _ _ _ symReads.over (fun _ h => by cases h) (by kernel_rfl) (fun _ h => by cases h) symReads_row_tie rfl ⟨rfl, rfl⟩ (by kernel_rfl) rfl
    (fun f fn hf hfn => by
      obtain rfl : f = 4 := Option.some.inj ((show Tryd.prog.funcNamed "carrel/carrellaw13.SymReads" = some 4 by kernel_rfl).symm.trans hf) |>.symm
      obtain rfl : fn = Tryd.f4 := (Option.some.inj (Tryd.func4.symm.trans hfn)).symm
      exact ⟨by kernel_rfl, fun j t ht => by
        rw [Tryd.params4] at ht
        have hm : t ∈ [30] := by simpa using Array.mem_of_getElem? ht
        have hall : ([30].all fun u => !Tryd.prog.wantsStandIn u) = true := by kernel_rfl
        exact (show Tryd.prog.wantsStandIn t = false by simpa using List.all_eq_true.1 hall t hm)⟩)
    (by kernel_rfl)
#print axioms symReads_holds
end Go.Proofs.YtcppgpcgbggdcaaDoor
