/-
  Layer 13: the reader's procedure, and all symbols.
-/
import Derived.Test.YtcppgpcgbggdcaaDoorYrw
namespace Go.Proofs.YtcppgpcgbggdcaaDoor
set_option linter.unusedVariables false
set_option linter.unusedSimpArgs false
open Go.ChangeShapes Go.WideShapes Go.ChangeAt Go.RowKit
attribute [local go_sem ↓] ldP_seal stP_seal ldS_seal stS_seal

/-- A procedure. -/
def pcS (f : Nat → Int) (len : Nat) (s : St) : Pc × St :=
  let x1 := textS f len 20 s
  let x2 := rowS f len 8 (parS f len) x1.2
  let x3 := octP f len resB x2.2
  (⟨x1.1, x2.1, x3.1⟩, x3.2)
def zeroP : Array Value := #[.string ⟨#[]⟩, .slice none 0 0, .int .i64 0]
set_option maxHeartbeats 8000000 in
set_option maxRecDepth 20000 in
theorem procedure_of (w : World) (b len cap : Nat) (a : Option Addr) (f : Nat → Int) (s : St) (h : Rdr w b a len cap f s) :
    Calls Tryd.prog 72 #[.pointer (some ⟨b, 0, none⟩)] w (PostP w b a len cap f (pcS f len s).1 (pcS f len s).2) := by
  have bl := h.bl
  have hlo := fun ad he => (h.ap ad he).2
  have hnb : w.heap.size ≠ b := by omega
  unfold pcS
  simp only
  have g1 : Hid (∀ X, Below w.heap.size w X → Calls Tryd.prog 66 #[.pointer (some ⟨b, 0, none⟩)] X _) := fun X hX => name_of X b len cap a f s (h.below hX)
  generalize textS f len 20 s = x1 at *
  have g2 : Hid (∀ X, Rdr X b a len cap f x1.2 → Calls Tryd.prog 69 #[.pointer (some ⟨b, 0, none⟩), .int .u32 8, .func (.func 92) #[.pointer (some ⟨b, 0, none⟩)] #[]] X _) := fun X hX => row_par (parS f len) X b len cap a f x1.2 hX 8 (by omega) (by omega) (fun Y sy hY _ => parameter_of Y b len cap a f sy hY)
  generalize rowS f len 8 (parS f len) x1.2 = x2 at *
  have g3 : ∀ X, Rdr X b a len cap f x2.2 → Calls Tryd.prog 88 #[.pointer (some ⟨b, 0, none⟩), .func (.func 55) #[] #[]] X _ := fun X hX => octet_rs X b len cap a f x2.2 hX
  generalize octP f len resB x2.2 = x3 at *
  have G3 : Hid (∀ X va vn vc, Rdr X b a len cap f x2.2 ∧ w.grownBy X (some b) ∧ BA X w.heap.size 63 zeroP ∧ X.ownsRow (w.heap.size + 1) 69 5 (.slice va vn vc) x2.1.length (flat vEnc x2.1) → Calls Tryd.prog 88 #[.pointer (some ⟨b, 0, none⟩), .func (.func 55) #[] #[]] X fun e w3 => e = .returned (.int .i64 x3.1) ∧ ∃ Z, (stT 63 ⟨w.heap.size, 0, none⟩ (.agg #[.string x1.1, .slice va vn vc, .int .i64 x3.1])).run Tryd.prog w3 = .ok () Z ∧ Hid (Rdr Z b a len cap f x3.2 ∧ w.grownBy Z (some b) ∧ BA Z w.heap.size 63 #[.string x1.1, .slice va vn vc, .int .i64 x3.1] ∧ Z.ownsRow w.heap.size 69 5 (.slice va vn vc) x2.1.length (flat vEnc x2.1))) := hid_of fun X va vn vc hX => (g3 X hX.1).mono fun e w3 hh => by
    obtain ⟨rfl, hr3, hg3⟩ := hh
    have B0 := hX.2.2.1.keep hg3 hnb
    obtain ⟨Z, z1, z2, z3⟩ := stT_run #[.string x1.1, .slice va vn vc, .int .i64 x3.1] B0 rfl (by kernel_rfl) (by simp [Value.oneCell'])
    have ho := own_gb hX.2.2.2 (by omega) hg3
    refine ⟨rfl, Z, z1, z3.rd hr3 hnb.symm (fun ad he => by have := hlo ad he; omega), z3.gbn (gb_trans hX.2.1 hg3) (Nat.le_refl _), z2, own_base (z3.own ho fun g hg => by have := own_lo ho g hg; omega) (by omega)⟩
  clear g3 h hlo
  unfold zeroP at G3
  go_enter Tryd.func72, Tryd.ntmps72
  go_wp2_with (first
    | (go_at_call 88; refine (G3.out _ _ _ _ H2.out).mono ?_; rintro e w3 ⟨rfl, Z, z1, HR⟩)
    | (go_at_call 69; refine (g2.out _ H1.out.1).mono ?_; rintro e w2 ⟨v2, rfl, ho2, hr2, hg2⟩; obtain ⟨va, vn, vc, rfl⟩ := own_slice ho2; have H2 := hid_of (show Rdr w2 b a len cap f x2.2 ∧ w.grownBy w2 (some b) ∧ BA w2 w.heap.size 63 #[.string ⟨#[]⟩, .slice none 0 0, .int .i64 0] ∧ w2.ownsRow (w.heap.size + 1) 69 5 (.slice va vn vc) x2.1.length (flat vEnc x2.1) from ⟨hr2, gb_trans H1.out.2.1 hg2, H1.out.2.2.1.keep hg2 hnb, own_base ho2 H1.out.2.2.2⟩); clear ho2 hr2 hg2 H1)
    | (go_at_call 66; refine (g1.out _ (by go_grown)).mono ?_; rintro e w1 ⟨rfl, hr1, hg1⟩; have hs1 := hg1.size; simp at hs1; have H1 := hid_of (show Rdr w1 b a len cap f x1.2 ∧ w.grownBy w1 (some b) ∧ BA w1 w.heap.size 63 #[.string ⟨#[]⟩, .slice none 0 0, .int .i64 0] ∧ w.heap.size + 1 ≤ w1.heap.size from ⟨hr1, gb_trans (gb_of_below (by go_grown) b) hg1, BA.keep (BA.new w _ _) hg1 hnb, by omega⟩); clear hr1 hg1 hs1))
  exact ret_cell1 (p := 2) rfl rfl (load_blk HR.out.2.2.1 Tryd.underlying63 rfl (by kernel_rfl)) rfl ⟨_, rfl, HR.out.2.2.2, HR.out.1, HR.out.2.1⟩
/-- What a module shows. -/
structure Sy where
  nm : ByteArray
  cs : List Cn
  vs : List Vr
  ps : List Pc
structure Sc where
  nm : ByteArray
  cs : Sl
  vs : Sl
  ps : Sl
def Sc.cells (c : Sc) : Array Value := #[.string c.nm, .slice c.cs.a c.cs.n c.cs.c, .slice c.vs.a c.vs.n c.vs.c, .slice c.ps.a c.ps.n c.ps.c]
def Sc.zero : Sc := ⟨⟨#[]⟩, ⟨none, 0, 0⟩, ⟨none, 0, 0⟩, ⟨none, 0, 0⟩⟩
/-- How symbols lie, in rows of the call's own. -/
structure SyAt (X : World) (B : Nat) (c : Sc) (o : Sy) : Prop where
  nm : c.nm = o.nm
  cs : X.ownsRow B 53 5 (.slice c.cs.a c.cs.n c.cs.c) o.cs.length (flat cEnc o.cs)
  vs : X.ownsRow B 69 5 (.slice c.vs.a c.vs.n c.vs.c) o.vs.length (flat vEnc o.vs)
  ps : ∃ l, l.map (·.1) = o.ps ∧ X.ownsRow B 63 3 (.slice c.ps.a c.ps.n c.ps.c) l.length (flat pEnc l) ∧ PsAt X B l
theorem SyAt.tq {X Y : World} {B : Nat} {c : Sc} {o : Sy} {P : Nat → Prop} (h : SyAt X B c o) (t : Tq X Y P) (hp : ∀ k, B ≤ k → k < X.heap.size → ¬ P k) : SyAt Y B c o := by
  obtain ⟨l, h1, h2, h3⟩ := h.ps
  have q : ∀ {e k v n xs}, X.ownsRow B e k v n xs → Y.ownsRow B e k v n xs := fun ho => t.own ho fun g hg => hp g (ho.lt g hg).1 (ho.lt g hg).2
  exact ⟨h.nm, q h.cs, q h.vs, l, h1, q h2, fun p hq => q (h3 p hq)⟩
theorem SyAt.below {X Y : World} {B : Nat} {c : Sc} {o : Sy} (h : SyAt X B c o) (hb : Below X.heap.size X Y) : SyAt Y B c o := h.tq (Tq.below (P := fun _ => False) hb) (fun _ _ _ e => e)
def symS (f : Nat → Int) (len : Nat) (s : St) : Sy × St :=
  let x1 := textS f len 20 s
  let x2 := rowS f len 200 (conS f len) x1.2
  let x3 := rowS f len 200 (varS f len) x2.2
  let x4 := rowS f len 100 (pcS f len) x3.2
  (⟨x1.1, x2.1, x3.1, x4.1⟩, x4.2)
def PostSy (w : World) (b : Nat) (a : Option Addr) (len cap : Nat) (f : Nat → Int) (o : Sy) (s : St) (e : Ending) (w' : World) : Prop := ∃ c : Sc, e = .returned (.agg c.cells) ∧ SyAt w' (w.heap.size + 1) c o ∧ Rdr w' b a len cap f s ∧ w.grownBy w' (some b)
theorem Sc.one (c : Sc) : (c.cells.all fun x => x.oneCell') = true := by simp [Sc.cells, Value.oneCell']
set_option maxHeartbeats 8000000 in
set_option maxRecDepth 20000 in
theorem symbols_of (w : World) (b len cap : Nat) (a : Option Addr) (f : Nat → Int) (s : St) (h : Rdr w b a len cap f s) :
    Calls Tryd.prog 41 #[.pointer (some ⟨b, 0, none⟩)] w (PostSy w b a len cap f (symS f len s).1 (symS f len s).2) := by
  have bl := h.bl
  have hlo := fun ad he => (h.ap ad he).2
  have hnb : w.heap.size ≠ b := by omega
  unfold symS
  simp only
  have g1 : Hid (∀ X, Below w.heap.size w X → Calls Tryd.prog 66 #[.pointer (some ⟨b, 0, none⟩)] X _) := fun X hX => name_of X b len cap a f s (h.below hX)
  generalize textS f len 20 s = x1 at *
  have g2 : Hid (∀ X, Rdr X b a len cap f x1.2 → Calls Tryd.prog 67 #[.pointer (some ⟨b, 0, none⟩), .int .u32 200, .func (.func 68) #[.pointer (some ⟨b, 0, none⟩)] #[]] X _) := fun X hX => row_con (conS f len) X b len cap a f x1.2 hX 200 (by omega) (by omega) (fun Y sy hY _ => constant_of Y b len cap a f sy hY)
  generalize rowS f len 200 (conS f len) x1.2 = x2 at *
  have g3 : Hid (∀ X, Rdr X b a len cap f x2.2 → Calls Tryd.prog 69 #[.pointer (some ⟨b, 0, none⟩), .int .u32 200, .func (.func 70) #[.pointer (some ⟨b, 0, none⟩)] #[]] X _) := fun X hX => row_var (varS f len) X b len cap a f x2.2 hX 200 (by omega) (by omega) (fun Y sy hY _ => variable_of Y b len cap a f sy hY)
  generalize rowS f len 200 (varS f len) x2.2 = x3 at *
  have g4 : ∀ X, Rdr X b a len cap f x3.2 → Calls Tryd.prog 71 #[.pointer (some ⟨b, 0, none⟩), .int .u32 100, .func (.func 72) #[.pointer (some ⟨b, 0, none⟩)] #[]] X _ := fun X hX => row_prc (pcS f len) X b len cap a f x3.2 hX 100 (by omega) (by omega) (fun Y sy hY _ => procedure_of Y b len cap a f sy hY)
  generalize rowS f len 100 (pcS f len) x3.2 = x4 at *
  have G4 : Hid (∀ (X : World) (v2 v3 : Sl), (Rdr X b a len cap f x3.2 ∧ w.grownBy X (some b) ∧ BA X w.heap.size 26 Sc.zero.cells ∧ w.heap.size + 1 ≤ X.heap.size) ∧ X.ownsRow (w.heap.size + 1) 53 5 (.slice v2.a v2.n v2.c) x2.1.length (flat cEnc x2.1) ∧ X.ownsRow (w.heap.size + 1) 69 5 (.slice v3.a v3.n v3.c) x3.1.length (flat vEnc x3.1) → Calls Tryd.prog 71 #[.pointer (some ⟨b, 0, none⟩), .int .u32 100, .func (.func 72) #[.pointer (some ⟨b, 0, none⟩)] #[]] X fun e w4 => ∃ (v4 : Sl), e = .returned (.slice v4.a v4.n v4.c) ∧ ∃ Z, (stT 26 ⟨w.heap.size, 0, none⟩ (.agg #[.string x1.1, .slice v2.a v2.n v2.c, .slice v3.a v3.n v3.c, .slice v4.a v4.n v4.c])).run Tryd.prog w4 = .ok () Z ∧ Hid (SyAt Z (w.heap.size + 1) ⟨x1.1, v2, v3, v4⟩ ⟨x1.1, x2.1, x3.1, x4.1⟩ ∧ Rdr Z b a len cap f x4.2 ∧ w.grownBy Z (some b) ∧ BA Z w.heap.size 26 (Sc.cells ⟨x1.1, v2, v3, v4⟩))) := hid_of fun X v2 v3 hX => (g4 X hX.1.1).mono fun e w4 hh => by
    obtain ⟨v, l, rfl, hl, ho4, hp4, hr4, hg4⟩ := hh
    obtain ⟨va, vn, vc, rfl⟩ := own_slice ho4
    obtain ⟨⟨hr, hg, hB, hs⟩, ho2, ho3⟩ := hX
    have B0 := hB.keep hg4 hnb
    obtain ⟨Z, z1, z2, z3⟩ := stT_run (Sc.cells ⟨x1.1, v2, v3, ⟨va, vn, vc⟩⟩) B0 rfl (by kernel_rfl) (Sc.one _)
    have hy : SyAt w4 (w.heap.size + 1) ⟨x1.1, v2, v3, ⟨va, vn, vc⟩⟩ ⟨x1.1, x2.1, x3.1, x4.1⟩ := ⟨rfl, own_gb ho2 (by omega) hg4, own_gb ho3 (by omega) hg4, l, hl.symm, own_base ho4 hs, fun p hp => own_base (hp4 p hp) hs⟩
    exact ⟨⟨va, vn, vc⟩, rfl, Z, z1, hy.tq z3 (fun k hk _ => by omega), z3.rd hr4 hnb.symm (fun ad he => by have := hlo ad he; omega), z3.gbn (gb_trans hg hg4) (Nat.le_refl _), z2⟩
  have G3 : Hid (∀ (X : World) (v2 : Sl), (Rdr X b a len cap f x2.2 ∧ w.grownBy X (some b) ∧ BA X w.heap.size 26 Sc.zero.cells ∧ w.heap.size + 1 ≤ X.heap.size) ∧ X.ownsRow (w.heap.size + 1) 53 5 (.slice v2.a v2.n v2.c) x2.1.length (flat cEnc x2.1) → Calls Tryd.prog 69 #[.pointer (some ⟨b, 0, none⟩), .int .u32 200, .func (.func 70) #[.pointer (some ⟨b, 0, none⟩)] #[]] X fun e Y => ∃ (v3 : Sl), e = .returned (.slice v3.a v3.n v3.c) ∧ Hid ((Rdr Y b a len cap f x3.2 ∧ w.grownBy Y (some b) ∧ BA Y w.heap.size 26 Sc.zero.cells ∧ w.heap.size + 1 ≤ Y.heap.size) ∧ Y.ownsRow (w.heap.size + 1) 53 5 (.slice v2.a v2.n v2.c) x2.1.length (flat cEnc x2.1) ∧ Y.ownsRow (w.heap.size + 1) 69 5 (.slice v3.a v3.n v3.c) x3.1.length (flat vEnc x3.1))) := hid_of fun X v2 hX => (g3.out X hX.1.1).mono fun e Y hh => by
    obtain ⟨v, rfl, ho, hr, hg⟩ := hh
    obtain ⟨va, vn, vc, rfl⟩ := own_slice ho
    exact ⟨⟨va, vn, vc⟩, rfl, ⟨hr, gb_trans hX.1.2.1 hg, hX.1.2.2.1.keep hg hnb, Nat.le_trans hX.1.2.2.2 hg.size⟩, own_gb hX.2 (by omega) hg, own_base ho hX.1.2.2.2⟩
  have G2 : Hid (∀ X, (Rdr X b a len cap f x1.2 ∧ w.grownBy X (some b) ∧ BA X w.heap.size 26 Sc.zero.cells ∧ w.heap.size + 1 ≤ X.heap.size) → Calls Tryd.prog 67 #[.pointer (some ⟨b, 0, none⟩), .int .u32 200, .func (.func 68) #[.pointer (some ⟨b, 0, none⟩)] #[]] X fun e Y => ∃ (v2 : Sl), e = .returned (.slice v2.a v2.n v2.c) ∧ Hid ((Rdr Y b a len cap f x2.2 ∧ w.grownBy Y (some b) ∧ BA Y w.heap.size 26 Sc.zero.cells ∧ w.heap.size + 1 ≤ Y.heap.size) ∧ Y.ownsRow (w.heap.size + 1) 53 5 (.slice v2.a v2.n v2.c) x2.1.length (flat cEnc x2.1))) := hid_of fun X hX => (g2.out X hX.1).mono fun e Y hh => by
    obtain ⟨v, rfl, ho, hr, hg⟩ := hh
    obtain ⟨va, vn, vc, rfl⟩ := own_slice ho
    exact ⟨⟨va, vn, vc⟩, rfl, ⟨hr, gb_trans hX.2.1 hg, hX.2.2.1.keep hg hnb, Nat.le_trans hX.2.2.2 hg.size⟩, own_base ho hX.2.2.2⟩
  clear g2 g3 g4 h hlo
  go_enter Tryd.func41, Tryd.ntmps41
  go_wp2_with (first
    | (go_at_call 71; refine (G4.out _ _ _ H3.out).mono ?_; rintro e w4 ⟨v4, rfl, Z, z1, HR⟩; clear H3)
    | (go_at_call 69; refine (G3.out _ _ H2.out).mono ?_; rintro e w3 ⟨v3, rfl, H3⟩; clear H2)
    | (go_at_call 67; refine (G2.out _ H1.out).mono ?_; rintro e w2 ⟨v2, rfl, H2⟩; clear H1)
    | (go_at_call 66; refine (g1.out _ (by go_grown)).mono ?_; rintro e w1 ⟨rfl, hr1, hg1⟩; have hs1 := hg1.size; simp at hs1; have H1 := hid_of (show Rdr w1 b a len cap f x1.2 ∧ w.grownBy w1 (some b) ∧ BA w1 w.heap.size 26 Sc.zero.cells ∧ w.heap.size + 1 ≤ w1.heap.size from ⟨hr1, gb_trans (gb_of_below (by go_grown) b) hg1, BA.keep (BA.new w _ _) hg1 hnb, by omega⟩); clear hr1 hg1 hs1))
  exact ret_cell1 (p := 2) rfl rfl (load_blk HR.out.2.2.2 Tryd.underlying26 rfl (by kernel_rfl)) rfl ⟨⟨x1.1, v2, v3, v4⟩, rfl, HR.out.1, HR.out.2.1, HR.out.2.2.1⟩
end Go.Proofs.YtcppgpcgbggdcaaDoor
