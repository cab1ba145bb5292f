/-
  The package-level variables as they lie, and contracts of library functions in the forms that the walks of layer 6 take.
-/
import Derived.Test.YtmldlkcgaepaaaaGreatDoorMPur
import Derived.Test.YtmldlkcgaepaaaaGreatDoorMShelf
import Derived.WalkSmall
import Derived.Lib.AppendIntMem
import Derived.Lib.ItoaLen
namespace Go.Proofs.YtmldlkcgaepaaaaGreatDoor
open Go.ChangeShapes Go.WideShapes Go.ChangeAt Go.RowKit

/-- The variables lie in their blocks as the program's text lays them. -/
structure Vars (w : World) : Prop where
  ways : Ways w
  big : 9 ≤ w.heap.size
  ops : ∀ o : Nat, o < 16 → w.cell? ⟨1, o, none⟩ = some (.string (bs (opName o)))
  conds : ∀ o : Nat, o < 16 → w.cell? ⟨0, o, none⟩ = some (.string (bs (condName o)))
  tab : Lib.TabIs Tryz.prog w "internal/strconv.uint64pow10" .u64 Lib.pow10Tab
  max : ∃ m, w.cell? ⟨2, 0, none⟩ = some (.int .i64 m)
  syn : ∃ t p, w.cell? ⟨7, 0, none⟩ = some (.iface t p)
  rng : ∃ t p, w.cell? ⟨8, 0, none⟩ = some (.iface t p)
theorem Vars.below {B : Nat} {w w' : World} (h : Vars w) (hb : Below B w w') (hB : 9 ≤ B) : Vars w' where
  ways := h.ways.below hb (by omega)
  big := Nat.le_trans h.big hb.size
  ops := fun o ho => (hb.cell (p := ⟨1, _, none⟩) (by show 1 < B; omega)).trans (h.ops o ho)
  conds := fun o ho => (hb.cell (p := ⟨0, _, none⟩) (by show 0 < B; omega)).trans (h.conds o ho)
  tab := var?_below hb (g := 6) (by kernel_rfl) (by omega) h.tab
  max := h.max.imp fun m hm => (hb.cell (p := ⟨2, _, none⟩) (by show 2 < B; omega)).trans hm
  syn := h.syn.imp fun t hm => hm.imp fun p hp => (hb.cell (p := ⟨7, _, none⟩) (by show 7 < B; omega)).trans hp
  rng := h.rng.imp fun t hm => hm.imp fun p hp => (hb.cell (p := ⟨8, _, none⟩) (by show 8 < B; omega)).trans hp
theorem Vars.call {w w' : World} (h : Vars w) (hb : Below w.heap.size w w') : Vars w' := h.below hb h.big
theorem Vars.alloc {w : World} (h : Vars w) (o : Obj) : Vars (w.alloc o) := h.call ((Below.refl _ _).alloc (Nat.le_refl _) _)
theorem Vars.drewN {w : World} (h : Vars w) (n : Nat) : Vars (w.drewN n) := h.call (below_drewN (Below.refl _ _) n)
theorem Vars.drew {w : World} (h : Vars w) : Vars w.drew := h.call (Below.refl _ _).drew
theorem Below.call {B : Nat} {a b c : World} (h : Below B a b) (g : Below b.heap.size b c) (hB : B ≤ a.heap.size) : Below B a c := h.trans (g.mono (Nat.le_trans hB h.size))

theorem ret_str {a b : ByteArray} (h : a = b) : Ending.returned (.string a) = .returned (.string b) := by rw [h]
theorem itoa_size (n : Int) (h0 : -9223372036854775808 ≤ n) (h1 : n ≤ 9223372036854775807) : (bs (Lib.itoa n)).size ≤ 21 := by rw [bs_size]; exact Lib.itoa_length_le n h0 h1
theorem itoa_any (n : Int) (w : World) (V : Vars w) (h0 : -9223372036854775808 ≤ n) (h1 : n ≤ 9223372036854775807) :
    Calls Tryz.prog 39 #[.int .i64 n] w fun e w' => e = .returned (.string (bs (Lib.itoa n))) ∧ Below w.heap.size w w' :=
  (Tryz.strconv_Itoa n h0 h1 w V.tab).mono fun _ _ ⟨he, k, os, hw⟩ => ⟨he, hw ▸ Lib.below_grow _ w (Nat.le_refl _) k os⟩
theorem trim_any (s : ByteArray) (w : World) (hs : s.size ≤ 9223372036854775807) :
    Calls Tryz.prog 20 #[.string s] w fun e w' => e = .returned (.string (bs (trimP s.data.toList))) ∧ Below w.heap.size w w' := by
  have hT := Tryz.strings_Trim_laid s { data := #[32, 9, 13] } w hs (by decide) (ascii_of_all (by decide))
  go_enter Tryz.func20, Tryz.ntmps20
  go_wp2_with (go_at_call 45; refine hT.mono ?_; rintro e w1 ⟨rfl, hb⟩)
  go_ret
  exact ⟨rfl, hb⟩
theorem register_any (n : Int) (w : World) (V : Vars w) (h0 : -9223372036854775808 ≤ n) (h1 : n ≤ 9223372036854775807) :
    Calls Tryz.prog 16 #[.int .i64 n] w fun e w' => e = .returned (.string (bs (regP n))) ∧ Below w.heap.size w w' := by
  have hT := itoa_any n w V h0 h1
  have hz := itoa_size n h0 h1
  clear V
  go_enter Tryz.func16, Tryz.ntmps16
  go_wp2_with (go_at_call 39; refine hT.mono ?_; rintro e w1 ⟨rfl, hb⟩)
  go_ret
  exact ⟨ret_str (bs_app [82] _), hb⟩
end Go.Proofs.YtmldlkcgaepaaaaGreatDoor
