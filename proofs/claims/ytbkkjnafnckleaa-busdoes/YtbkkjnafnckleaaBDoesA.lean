/-
  What the law on a bus's doings needs beside its calls.
-/
import Derived.Test.YtbkkjnafnckleaaHeldA
import Derived.Test.YtbkkjnafnckleaaPairOk
import Derived.Test.YtbkkjnafnckleaaNone
import Derived.Test.YtbkkjnafnckleaaBImage
namespace Go.Proofs.Ytbkkjnafnckleaa
open Go.ChangeShapes Go.WideShapes Go.ChangeAt Go.RowKit
attribute [local go_sem ↓] loadSec_seal storeSec_seal eqlSec_seal zeroSec
attribute [local go_sem] loadSec_run storeSec_run rowAt_at rowAt_old rowAt_drew rowAt_drewN roomSec_new roomAt_old roomAt_drew roomAt_drewN putSec_new putRow_past rowSec_put size_put putRow_drew putRow_drewN alloc_drewN setCell_drewN sec_size

set_option linter.unusedVariables false

/-- A row of things to do. -/
def RdOp (w : World) (a : Option Addr) (len : Nat) (g : Nat → Opp) : Prop :=
  len ≤ maxLen ∧ (len = 0 ∨ ∃ b off, a = some ⟨b, off, none⟩ ∧ b < w.heap.size ∧ ∀ k, k < len → (g k).Ok ∧ w.cell? ⟨b, off + k * 5, none⟩ = some (.int .i64 (g k).k) ∧ w.cell? ⟨b, off + k * 5 + 1, none⟩ = some (.int .i64 (g k).ak) ∧ w.cell? ⟨b, off + k * 5 + 2, none⟩ = some (.int .u32 (g k).aa) ∧ w.cell? ⟨b, off + k * 5 + 3, none⟩ = some (.int .u32 (g k).av) ∧ w.cell? ⟨b, off + k * 5 + 4, none⟩ = some (.string (g k).s))
theorem RdOp.at {w X : World} {a : Option Addr} {len : Nat} {g : Nat → Opp} (h : RdOp w a len g) (hb : Below w.heap.size w X) {k : Nat} (hlt : k < len) : ∃ b off, a = some ⟨b, off, none⟩ ∧ (g k).Ok ∧ X.cell? ⟨b, off + k * 5, none⟩ = some (.int .i64 (g k).k) ∧ X.cell? ⟨b, off + k * 5 + 1, none⟩ = some (.int .i64 (g k).ak) ∧ X.cell? ⟨b, off + k * 5 + 2, none⟩ = some (.int .u32 (g k).aa) ∧ X.cell? ⟨b, off + k * 5 + 3, none⟩ = some (.int .u32 (g k).av) ∧ X.cell? ⟨b, off + k * 5 + 4, none⟩ = some (.string (g k).s) := by
  rcases h.2 with h0 | ⟨b, off, e, hl, hc⟩
  · omega
  · obtain ⟨ok, c0, c1, c2, c3, c4⟩ := hc k hlt
    have hB : ∀ j, X.cell? ⟨b, j, none⟩ = w.cell? ⟨b, j, none⟩ := fun j => hb.cell (p := ⟨b, j, none⟩) hl
    exact ⟨b, off, e, ok, (hB _).trans c0, (hB _).trans c1, (hB _).trans c2, (hB _).trans c3, (hB _).trans c4⟩
theorem Same.below {w X : World} {b r : Nat} (h : Same w b r X) : Below w.heap.size w X := by
  obtain ⟨P, L, Q, hD⟩ := h
  exact hD.own.below
theorem Duo.base {w w2 X : World} {b r : Nat} {P : Ph} {L K : Lg} {Q : RPh} (h : Duo w2 b P L r Q K X) (hb : Below w.heap.size w w2) : Duo w b P L r Q K X :=
  ⟨⟨h.own.bus, fun x hx => Nat.le_trans hb.size (h.own.all x hx), hb.trans (h.own.below.mono hb.size)⟩, h.ref, fun x hx => Nat.le_trans hb.size (h.all x hx), h.ap⟩
theorem Same.base {w w2 X : World} {b r : Nat} (h : Same w2 b r X) (hb : Below w.heap.size w w2) : Same w b r X := by
  obtain ⟨P, L, Q, hD⟩ := h
  exact ⟨P, L, Q, hD.base hb⟩
/-! The image, as it grows. -/
def imgL (S : Nat → Nat → Int) (m : Nat) : List Int := (List.range m).map (imgF S)
theorem imgL_len (S : Nat → Nat → Int) (m : Nat) : (imgL S m).length = m := by simp [imgL]
theorem imgL_at (S : Nat → Nat → Int) {m i : Nat} (h : i < m) : (imgL S m).getD i 0 = imgF S i := by simp [imgL, List.getD, h]
theorem bytesL_str (f : Nat → Int) (n : Nat) (hf : ∀ i, i < n → 0 ≤ f i ∧ f i ≤ 255) : bytesL (strF f n) = (List.range n).map f := by
  have e2 : (strF f n).data.toList = ((List.range n).map f).map fun n => UInt8.ofNat n.toNat := strOfNums_data _
  unfold bytesL
  rw [e2, List.map_map, List.map_map]
  refine List.map_congr_left fun i hi => ?_
  have := hf i (List.mem_range.1 hi)
  simp only [Function.comp]
  have e : (UInt8.ofNat (f i).toNat).toNat = (f i).toNat := by
    rw [UInt8.toNat_ofNat']; exact Nat.mod_eq_of_lt (by omega)
  rw [e]; omega
theorem map_next (f g : Nat → Int) (a n : Nat) (h : ∀ j, j < n → f (a + j) = g j) : (List.range a).map f ++ (List.range n).map g = (List.range (a + n)).map f := by
  rw [List.range_add, List.map_append, List.map_map]
  congr 1
  exact List.map_congr_left fun j hj => (h j (List.mem_range.1 hj)).symm
theorem imgL_next (S : Nat → Nat → Int) (k : Nat) : imgL S (k * 1024) ++ (List.range 1024).map (S k) = imgL S ((k + 1) * 1024) := by
  unfold imgL
  rw [show (k + 1) * 1024 = k * 1024 + 1024 by omega]
  exact map_next _ _ _ _ fun j hj => imgF_at S k j hj
structure ImgRel (w : World) (b : Nat) (P : Ph) (L : Lg) (r : Nat) (Q : RPh) (a : Option Addr) (c k : Nat) (X : World) : Prop where
  duo : Duo w b P L r Q L X
  row : SRow X a c (imgL L.S (k * 1024))
  ap : ∀ x, inB a x → ¬ P.all b x ∧ ¬ Q.all r x ∧ w.heap.size ≤ x ∧ x < X.heap.size
theorem ImgRel.next {w X Y : World} {b r : Nat} {P : Ph} {L : Lg} {Q : RPh} {a : Option Addr} {c k : Nat} (h : ImgRel w b P L r Q a c k X) (hb : Below X.heap.size X Y) : ImgRel w b P L r Q a c k Y :=
  ⟨h.duo.next hb, h.row.same fun x hx => hb.block x (h.ap x hx).2.2.2, fun x hx => ⟨(h.ap x hx).1, (h.ap x hx).2.1, (h.ap x hx).2.2.1, Nat.lt_of_lt_of_le (h.ap x hx).2.2.2 hb.size⟩⟩
theorem ImgRel.start {w X : World} {b r : Nat} {P : Ph} {L : Lg} {Q : RPh} (h : Duo w b P L r Q L X) : ImgRel w b P L r Q none 0 0 X :=
  ⟨h, ⟨.inl ⟨rfl, by simp [imgL], rfl⟩, fun x hx => by simp [imgL] at hx⟩, fun x ⟨p, hp, _⟩ => by cases hp⟩
theorem ImgRel.grow {w X : World} {b r : Nat} {P : Ph} {L : Lg} {Q : RPh} {a : Option Addr} {c k : Nat} (h : ImgRel w b P L r Q a c k X) (hk : k < L.n) : ∃ a' c' X', (Builtin.append_ #[35, 9] 35 #[.slice a (k * 1024) c, .string (strF (L.S k) 1024)]).run Try.prog X = .ok (.slice a' ((k + 1) * 1024) c') X' ∧ ImgRel w b P L r Q a' c' (k + 1) X' := by
  have hB : ∀ i, i < 1024 → 0 ≤ L.S k i ∧ L.S k i ≤ 255 := fun i hi => h.duo.ref.dB k hk i hi
  have eb := bytesL_str (L.S k) 1024 hB
  have hl : (bytesL (strF (L.S k) 1024)).length = 1024 := by rw [eb]; simp
  have n1 : L.n ≤ 1024 := by rw [← h.duo.own.bus.dn]; exact h.duo.own.bus.dsk.n1
  obtain ⟨a', c', X', hr, hS, ht, ha, hlt⟩ := srow_append h.row 9 35 (.string (strF (L.S k) 1024)) (bytesL (strF (L.S k) 1024)) (src_string X _) (bytesL_byte _) (by rw [imgL_len, hl]; omega)
  rw [imgL_len, hl, show k * 1024 + 1024 = (k + 1) * 1024 by omega] at hr
  rw [eb, imgL_next] at hS
  have hD : Duo w b P L r Q L X' := ⟨h.duo.own.tou ht fun x hx => ⟨(h.ap x hx).2.2.1, (h.ap x hx).1⟩, h.duo.ref.tou ht fun x hx => (h.ap x hx).2.1, h.duo.all, h.duo.ap⟩
  refine ⟨a', c', X', hr, hD, hS, fun x hx => ?_⟩
  rcases ha x hx with e | e
  · exact ⟨(h.ap x e).1, (h.ap x e).2.1, (h.ap x e).2.2.1, hlt x hx⟩
  · exact ⟨fun q => by have := h.duo.own.bus.lt x q; omega, fun q => by have := h.duo.ref.lt x q; omega, Nat.le_trans h.duo.own.below.size e, hlt x hx⟩
/-- The image, as a string, wherever it still lies as it lay. -/
theorem ImgRel.str {w X : World} {b r : Nat} {P : Ph} {L : Lg} {Q : RPh} {a : Option Addr} {c : Nat} (h : ImgRel w b P L r Q a c L.n X) : (convert 35 9 (.slice a (L.n * 1024) c)).run Try.prog X = .ok (.string (strF (imgF L.S) (L.n * 1024))) X := by
  have n1 : L.n ≤ 1024 := by rw [← h.duo.own.bus.dn]; exact h.duo.own.bus.dsk.n1
  have e := conv_str c (h.row.rd (by rw [imgL_len]; unfold maxLen; omega))
  rw [imgL_len] at e
  rw [e, strF_ext fun i hi => imgL_at L.S hi]
set_option maxHeartbeats 1000000 in
theorem held_looks (w : World) (b r : Nat) (o : Opp) (P : Ph) (L : Lg) (Q : RPh) (X : World) (hD : Duo w b P L r Q L X) (ho : o.Ok) (hk : pickI o.k 6 = 3) : Calls Try.prog 10 #[.pointer (some ⟨b, 0, none⟩), .pointer (some ⟨r, 0, none⟩), o.val] X fun e Y => e = .returned (.bool true) ∧ Below X.heap.size X Y := by
  have hb0 : Below X.heap.size X (X.alloc (boxO o)) := (Below.refl _ X).alloc (Nat.le_refl _) _
  have HD : Hid (Duo w b P L r Q L (X.alloc (boxO o)) ∧ Below X.heap.size X (X.alloc (boxO o))) := ⟨hD.next hb0, hb0⟩
  have HO : Hid o.Ok := ho
  have k0 := ho.k0
  have k1 := ho.k1
  clear hD ho
  unfold Opp.val
  go_enter Try.func10, Try.ntmps10
  go_wp2_with (first
    | (go_at_call 20; refine (pick_any _ _ _ (by assumption) (by assumption) (by decide) (by decide)).mono ?_; rintro e wz ⟨rfl, hw⟩; obtain rfl := hw.symm)
    | (go_at_call 21; refine (waiting_any b P L _ HD.out.1.own.bus).mono ?_; rintro e v1 ⟨rfl, hw⟩; obtain rfl := hw.symm)
    | (go_at_call 33; refine (rwaiting_any r Q L _ HD.out.1.ref).mono ?_; rintro e v1 ⟨rfl, hw⟩; obtain rfl := hw.symm)
    | (go_at_call 22; refine (out_any b P L _ HD.out.1.own.bus).mono ?_; rintro e v1 ⟨rfl, hw⟩; obtain rfl := hw.symm)
    | (go_at_call 34; refine (rout_any r Q L _ HD.out.1.ref).mono ?_; rintro e v1 ⟨rfl, hw⟩; obtain rfl := hw.symm))
  go_ret
  exact ⟨by simp, HD.out.2⟩
end Go.Proofs.Ytbkkjnafnckleaa
