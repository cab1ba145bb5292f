/-
  What the law on power cuts meets.
  The law on power cuts: its walk.
  The law on power cuts: its walk where there is a machine.
-/
import Derived.Test.YteegkhnikcioiaaGreatDoorMMDuo
import Derived.Test.YteegkhnikcioiaaGreatDoorMBImage
import Derived.Deep.DeepCutAuto
namespace Go.Proofs.YteegkhnikcioiaaGreatDoor
open Go.ChangeShapes Go.WideShapes Go.ChangeAt Go.RowKit
open Cpu (Cp In Ac En decOk decI accA rightB)
set_option linter.unusedVariables false

structure CutF (m : Ms) (cut : Int) (E : En) (A : Ms) : Prop where
  s : E.s = A.st
  st : 0 ≤ A.st ∧ A.st ≤ 3000
  k : (E.k = 7 ∧ (A.L.m : Int) = cut ∧ A.gone = true) ∨ (E.k ≠ 7 ∧ (A.L.m : Int) < cut)
  wh : (m.run A.st.toNat).2 = A.whole
  kb : 1 ≤ E.k ∧ E.k ≤ 7
theorem cut_run {X : World} {p b : Nat} {P : Ph} {M m : Ms} (h : Mac X p b P M) (hc : 0 ≤ M.cut) (h0 : M.st = 0) (hm : M.L.m = 0) (hw : M.whole = m) : Calls Tryz.prog 15 #[.pointer (some ⟨p, 0, none⟩), .int .i64 3000] X fun e Y => ∃ E : En, ∃ P' A, e = .returned (.agg E.cells) ∧ MStp X p b P Y P' A ∧ CutF m M.cut E A :=
  (run_any h 3000 ⟨by decide, by decide⟩ (by rw [h0]; decide)).mono fun e Y ⟨he, P', hS⟩ => by
    have e1 : steps 3000 = 3000 := by kernel_rfl
    rw [e1] at he hS
    have R := run_ends 3000 M
    have s1 := R.s.1
    have s2 := R.s.2
    rw [h0] at s1 s2
    have C := run_cuts 3000 M hc (by rw [hm]; exact hc)
    have W := run_whole 3000 M
    rw [hw, h0, Int.sub_zero] at W
    refine ⟨_, P', _, he, hS, ⟨?_, ⟨s1, by omega⟩, C, W, R.k⟩⟩
    show (M.run 3000).2.st - M.st = _
    rw [h0, Int.sub_zero]
theorem whole_run {X : World} {q c : Nat} {Q : Ph} {m : Ms} {cut : Int} {E : En} {A : Ms} (h : Mac X q c Q m) (h0 : m.st = 0) (hF : CutF m cut E A) : Calls Tryz.prog 15 #[.pointer (some ⟨q, 0, none⟩), .int .i64 E.s] X fun e Y => ∃ E' : En, ∃ Q', e = .returned (.agg E'.cells) ∧ MStp X q c Q Y Q' A.whole :=
  (run_any h E.s ⟨by rw [hF.s]; have := hF.st.1; omega, by rw [hF.s]; have := hF.st.2; omega⟩ (by rw [h0]; decide)).mono fun e Y ⟨he, Q', hS⟩ => by
    have e1 : steps E.s = A.st.toNat := by have := hF.st; unfold steps; rw [hF.s]; omega
    rw [e1, hF.wh] at hS
    exact ⟨_, Q', he, hS⟩
theorem gone_run {X : World} {p b : Nat} {P : Ph} {A : Ms} (h : Mac X p b P A) (hg : A.gone = true) (h3 : A.st ≤ 3000) : Calls Tryz.prog 15 #[.pointer (some ⟨p, 0, none⟩), .int .i64 5] X fun e Y => e = .returned (.agg (⟨7, 0, 0, 0⟩ : En).cells) ∧ ∃ P', MStp X p b P Y P' A :=
  (run_any h 5 ⟨by decide, by decide⟩ (by omega)).mono fun e Y ⟨he, P', hS⟩ => by
    unfold Ms.tells at he
    rw [Ms.run_gone A _ hg] at he hS
    refine ⟨?_, P', hS⟩
    rw [he]
    show Ending.returned (.agg (⟨7, 0, 0, A.st - A.st⟩ : En).cells) = _
    rw [show A.st - A.st = 0 by omega]
theorem some_run {X : World} {p b : Nat} {P : Ph} {A : Ms} (h : Mac X p b P A) (h3 : A.st ≤ 3000) : Calls Tryz.prog 15 #[.pointer (some ⟨p, 0, none⟩), .int .i64 5] X fun e Y => ∃ E : En, ∃ P' A', e = .returned (.agg E.cells) ∧ MStp X p b P Y P' A' :=
  (run_any h 5 ⟨by decide, by decide⟩ (by omega)).mono fun e Y ⟨he, P', hS⟩ => ⟨_, P', _, he, hS⟩
theorem mcpu_whole {w : World} {p b : Nat} {P : Ph} {A : Ms} (h : Mac w p b P A.whole) : Calls Tryz.prog 16 #[.pointer (some ⟨p, 0, none⟩)] w fun e w' => e = .returned (.agg A.c.cells) ∧ Below w.heap.size w w' := mcpu_any (m := A.whole) h
/-- A disk whose image is so. -/
def ImgAt (X : World) (db n : Nat) (F : Nat → Nat → Int) : Prop := ∃ D, Rep X db D ∧ D.n = n ∧ D.S = F
theorem ImgAt.below {X Y : World} {db n : Nat} {F : Nat → Nat → Int} (h : ImgAt X db n F) (hb : Below X.heap.size X Y) : ImgAt Y db n F := by
  obtain ⟨D, h1, h2⟩ := h
  exact ⟨D, h1.below hb, h2⟩
theorem Mac.img {w : World} {p b : Nat} {P : Ph} {m : Ms} (h : Mac w p b P m) : ImgAt w P.db m.L.n m.L.S := ⟨P.D, h.bus.dsk, h.bus.dn, h.bus.dS⟩
/-- A machine whose disk lies there. -/
def DiskAt (X : World) (p db : Nat) : Prop := ∃ b P m, Mac X p b P m ∧ P.db = db
theorem DiskAt.below {X Y : World} {p db : Nat} (h : DiskAt X p db) (hb : Below X.heap.size X Y) : DiskAt Y p db := by
  obtain ⟨b, P, m, h1, h2⟩ := h
  exact ⟨b, P, m, h1.below hb, h2⟩
theorem Mac.diskAt {w : World} {p b : Nat} {P : Ph} {m : Ms} (h : Mac w p b P m) : DiskAt w p P.db := ⟨b, P, m, h, rfl⟩
theorem diskAt_any {X : World} {p db : Nat} (h : DiskAt X p db) : Calls Tryz.prog 19 #[.pointer (some ⟨p, 0, none⟩)] X fun e Y => e = .returned (.pointer (some ⟨db, 0, none⟩)) ∧ Y = X := by
  obtain ⟨b, P, m, h1, rfl⟩ := h
  exact mdisk_any h1
theorem imgAt_any {X : World} {db n : Nat} {F : Nat → Nat → Int} (h : ImgAt X db n F) : Calls Tryz.prog 20 #[.pointer (some ⟨db, 0, none⟩)] X fun e Y => ∃ g c, e = .returned (.slice (some ⟨g, 0, none⟩) (n * 1024) c) ∧ Below X.heap.size X Y ∧ ∀ Z, Below Y.heap.size Y Z → (convert 49 9 (.slice (some ⟨g, 0, none⟩) (n * 1024) c)).run Tryz.prog Z = .ok (.string (strF (imgF F) (n * 1024))) Z := by
  obtain ⟨D, h1, rfl, rfl⟩ := h
  refine (image_any db D X h1).mono ?_
  rintro e Y ⟨g, c, he, hr, _, _, hb⟩
  exact ⟨g, c, he, hb, fun Z hZ => conv_str c (hr.below hZ)⟩
end Go.Proofs.YteegkhnikcioiaaGreatDoor

namespace Go.Proofs.YteegkhnikcioiaaGreatDoor
open Go.ChangeShapes Go.WideShapes Go.ChangeAt Go.RowKit
open Cpu (Cp In Ac En decOk decI accA rightB)
attribute [local go_sem ↓] Cpu.loadCpu_seal Cpu.storeCpu_seal Cpu.loadIn_seal Cpu.storeIn_seal Cpu.loadAc_seal Cpu.storeAc_seal Cpu.loadEn_seal Cpu.storeEn_seal
attribute [local go_sem] Cpu.loadCpu_run Cpu.storeCpu_run Cpu.loadIn_run Cpu.storeIn_run Cpu.rowAt_at Cpu.rowAt_past Cpu.rowAt_drew Cpu.rowAt_drewN Cpu.roomCpu_new Cpu.roomIn_new Cpu.roomAt_old Cpu.roomAt_drew Cpu.roomAt_drewN Cpu.putCpu_new Cpu.putIn_new Cpu.Cp.zero_fold Cpu.In.fold Cpu.putRow_past Cpu.rowCpu_put Cpu.rowIn_put Cpu.size_put Cpu.putRow_drew Cpu.putRow_drewN Cpu.alloc_drewN Cpu.setCell_drewN Cpu.Cp.at16 Cpu.Cp.at17 Cpu.Cp.at18 Cpu.Cp.at19 Cpu.Cp.at20 Cpu.Cp.at21 Cpu.Cp.size Cpu.Cp.set16 Cpu.Cp.set17 Cpu.Cp.set18 Cpu.Cp.set19 Cpu.Cp.set20 Cpu.Cp.set21 Cpu.In.at0 Cpu.In.at1 Cpu.In.at2 Cpu.In.at3 Cpu.In.at4 Cpu.In.at5 Cpu.In.at6 Cpu.In.at7 Cpu.In.size Cpu.In.set0 Cpu.In.set1 Cpu.In.set2 Cpu.In.set3 Cpu.In.ne Cpu.Cp.ne Cpu.In.set4 Cpu.In.set5 Cpu.In.set6 Cpu.In.set7 loadMid_run storeMid_run mc_size mc_cpu Cpu.loadAc_run Cpu.storeAc_run Cpu.loadEn_run Cpu.storeEn_run Cpu.putAc_new Cpu.putEn_new Cpu.roomAc_new Cpu.roomEn_new Cpu.rowAc_put Cpu.rowEn_put Cpu.Ac.at0 Cpu.Ac.at1 Cpu.Ac.at2 Cpu.Ac.size Cpu.Ac.ne Cpu.Ac.fold Cpu.En.at0 Cpu.En.at1 Cpu.En.at2 Cpu.En.at3 Cpu.En.size Cpu.En.set0 Cpu.En.set1 Cpu.En.set2 Cpu.En.set3 Cpu.Ac.set0 Cpu.Ac.set1 Cpu.Ac.set2 Cpu.En.ne Cpu.En.fold
set_option linter.unusedVariables false
attribute [local go_sem ↓] Cpu.eqlCpu_seal

/-- The world of a law's argument: what is read of it. -/
def St0 (a : Option Addr) (len cap : Nat) (en sec : Int) : Obj := .cells #[.slice a len cap, .int .u32 en, .int .i64 sec] 25
structure Starts (w : World) (a : Option Addr) (len cap : Nat) (en sec : Int) (X : World) : Prop where
  c0 : X.cell? ⟨w.heap.size, 0, none⟩ = some (.slice a len cap)
  c1 : X.cell? ⟨w.heap.size, 1, none⟩ = some (.int .u32 en)
  c2 : X.cell? ⟨w.heap.size, 2, none⟩ = some (.int .i64 sec)
  lt : w.heap.size < X.heap.size
  below : Below w.heap.size w X
theorem Starts.begin (w : World) (a : Option Addr) (len cap : Nat) (en sec : Int) : Starts w a len cap en sec (w.alloc (.cells #[.slice a len cap, .int .u32 en, .int .i64 sec] 25)) := ⟨by simp, by simp, by simp, by simp, al _⟩
theorem Starts.next {w X Y : World} {a : Option Addr} {len cap : Nat} {en sec : Int} (h : Starts w a len cap en sec X) (hb : Below X.heap.size X Y) : Starts w a len cap en sec Y :=
  ⟨(hb.cell (p := ⟨w.heap.size, 0, none⟩) h.lt).trans h.c0, (hb.cell (p := ⟨w.heap.size, 1, none⟩) h.lt).trans h.c1, (hb.cell (p := ⟨w.heap.size, 2, none⟩) h.lt).trans h.c2, Nat.lt_of_lt_of_le h.lt hb.size, h.below.trans (hb.mono h.below.size)⟩
set_option maxHeartbeats 2000000 in
set_option maxRecDepth 20000 in
theorem cuts_no (a : Option Addr) (len cap : Nat) (f : Nat → Int) (en sec cut : Int) (s : ByteArray) (w : World) (hW : Cpu.Ways w) (hr : RdW w a len f) (hlen : len ≤ 35184372087808) (e0 : 0 ≤ en) (e1 : en ≤ 4294967295) (hg : goodS len en = false) : Calls Tryz.prog 7 #[.agg #[.slice a len cap, .int .u32 en, .int .i64 sec], .string s, .int .i64 cut] w fun e w' => e = .returned (.bool true) ∧ Below w.heap.size w w' := by
  have HR : Hid (RdW w a len f) := hr
  have HW : Hid (Cpu.Ways w) := hW
  have HS : Hid (Starts w a len cap en sec (w.alloc (.cells #[.slice a len cap, .int .u32 en, .int .i64 sec] 25))) := Starts.begin _ _ _ _ _ _
  clear hr hW
  go_enter Tryz.func7, Tryz.ntmps7
  go_wp2_with (first
    | (go_at_call 9; refine (mshown_any _ (HW.out.alloc _)).mono ?_; rintro e w1 ⟨rfl, b1⟩; have H1 : Hid (Starts w a len cap en sec w1) := HS.out.next b1; have c0 := H1.out.c0; have c1 := H1.out.c1; have c2 := H1.out.c2; clear b1)
    | (go_at_call 10; have hx := H2; clear hx; refine (made_bad a len cap f en sec _ (HW.out.below H2.out.below HW.out.big) (HR.out.over H2.out.below) hlen e0 e1 hg).mono ?_; rintro e w3 ⟨v3, k3, rfl, b3⟩; have H3 : Hid (Starts w a len cap en sec w3) := H2.out.next b3; clear b3)
    | (go_at_call 10; refine (made_bad a len cap f en sec _ (HW.out.below H1.out.below HW.out.big) (HR.out.over H1.out.below) hlen e0 e1 hg).mono ?_; rintro e w2 ⟨v2, k2, rfl, b2⟩; have H2 : Hid (Starts w a len cap en sec w2) := H1.out.next b2; have d0 := H2.out.c0; have d1 := H2.out.c1; have d2 := H2.out.c2; clear b2))
  go_ret
  exact ⟨by first | rfl | simp, H3.out.below⟩
set_option maxHeartbeats 2000000 in
set_option maxRecDepth 20000 in
theorem cuts_neg (a : Option Addr) (len cap : Nat) (f : Nat → Int) (en sec cut : Int) (s : ByteArray) (w : World) (hW : Cpu.Ways w) (hr : RdW w a len f) (hlen : len ≤ 35184372087808) (e0 : 0 ≤ en) (e1 : en ≤ 4294967295) (hg : goodS len en = true) (hc : cut < 0) : Calls Tryz.prog 7 #[.agg #[.slice a len cap, .int .u32 en, .int .i64 sec], .string s, .int .i64 cut] w fun e w' => e = .returned (.bool true) ∧ Below w.heap.size w w' := by
  have HR : Hid (RdW w a len f) := hr
  have HW : Hid (Cpu.Ways w) := hW
  have HS : Hid (Starts w a len cap en sec (w.alloc (.cells #[.slice a len cap, .int .u32 en, .int .i64 sec] 25))) := Starts.begin _ _ _ _ _ _
  clear hr hW
  go_enter Tryz.func7, Tryz.ntmps7
  go_wp2_with (first
    | (go_at_call 9; refine (mshown_any _ (HW.out.alloc _)).mono ?_; rintro e w1 ⟨rfl, b1⟩; have H1 : Hid (Starts w a len cap en sec w1) := HS.out.next b1; have c0 := H1.out.c0; have c1 := H1.out.c1; have c2 := H1.out.c2; clear b1)
    | (go_at_call 10; have hx := H2; clear hx; refine (made_good a len cap f en sec _ (HW.out.below H2.out.below HW.out.big) (HR.out.over H2.out.below) hlen e0 e1 hg).mono ?_; rintro e w3 ⟨q, c, Q, D2, v3, k3, rfl, hM, _⟩; have H3 : Hid (Starts w a len cap en sec w3) := H2.out.next hM.below; clear hM)
    | (go_at_call 10; refine (made_good a len cap f en sec _ (HW.out.below H1.out.below HW.out.big) (HR.out.over H1.out.below) hlen e0 e1 hg).mono ?_; rintro e w2 ⟨p, b, P, D, v2, k2, rfl, hM, _⟩; have H2 : Hid (Starts w a len cap en sec w2) := H1.out.next hM.below; have d0 := H2.out.c0; have d1 := H2.out.c1; have d2 := H2.out.c2; clear hM))
  go_ret
  exact ⟨by first | rfl | simp, H3.out.below⟩
/-- A row beside two machines. -/
structure Kept (X : World) (p b : Nat) (P : Ph) (q c : Nat) (Q : Ph) (g : Nat) (cs : Array Value) : Prop where
  row : Cpu.rowAt X g = some cs
  lt : g < X.heap.size
  n1 : ¬ MM p b P g
  n2 : ¬ MM q c Q g
theorem Kept.new {w X : World} {p b q c : Nat} {P Q : Ph} {m n : Ms} (h : MDuo w X p b P m q c Q n) (cs : Array Value) (t : TypeId) : Kept (X.alloc (.cells cs t)) p b P q c Q X.heap.size cs :=
  ⟨Cpu.rowAt_at _ _ _ _ _ rfl, by simp, fun hx => absurd (h.one.mac.lt _ hx) (by omega), fun hx => absurd (h.two.mac.lt _ hx) (by omega)⟩
theorem Kept.swap {X : World} {p b q c g : Nat} {P Q : Ph} {cs : Array Value} (h : Kept X p b P q c Q g cs) : Kept X q c Q p b P g cs := ⟨h.row, h.lt, h.n2, h.n1⟩
theorem Kept.fst {X Y : World} {p b q c g : Nat} {P P' Q : Ph} {m' : Ms} {cs : Array Value} (h : Kept X p b P q c Q g cs) (hs : MStp X p b P Y P' m') : Kept Y p b P' q c Q g cs :=
  ⟨(rowAt_same (hs.tou.block g h.lt h.n1)).trans h.row, Nat.lt_of_lt_of_le h.lt hs.tou.size, fun hx => hx.elim (fun e => h.n1 (.inl e)) fun e => (hs.new g e).elim (fun e => h.n1 (.inr e)) fun e => absurd h.lt (by omega), h.n2⟩
theorem Kept.snd {X Y : World} {p b q c g : Nat} {P Q Q' : Ph} {n' : Ms} {cs : Array Value} (h : Kept X p b P q c Q g cs) (hs : MStp X q c Q Y Q' n') : Kept Y p b P q c Q' g cs := (h.swap.fst hs).swap
theorem Kept.next {X Y : World} {p b q c g : Nat} {P Q : Ph} {cs : Array Value} (h : Kept X p b P q c Q g cs) (hb : Below X.heap.size X Y) : Kept Y p b P q c Q g cs :=
  ⟨(rowAt_same (hb.block g h.lt)).trans h.row, Nat.lt_of_lt_of_le h.lt hb.size, h.n1, h.n2⟩
theorem cs_next {W X Y : World} {ge ga gb : Nat} {E : En} {A : Cp} (hb : Below X.heap.size X Y) (he : ge < W.heap.size) (hx : ga < W.heap.size) (hy : gb < W.heap.size) (h : Below W.heap.size W X ∧ Cpu.rowAt X ga = some A.cells ∧ Cpu.rowAt X gb = some A.cells ∧ (∀ j, X.cell? ⟨ge, j, none⟩ = E.cells[j]?)) : Below W.heap.size W Y ∧ Cpu.rowAt Y ga = some A.cells ∧ Cpu.rowAt Y gb = some A.cells ∧ (∀ j, Y.cell? ⟨ge, j, none⟩ = E.cells[j]?) :=
  have l := h.1.size
  ⟨h.1.trans (hb.mono l), (rowAt_same (hb.block _ (by omega))).trans h.2.1, (rowAt_same (hb.block _ (by omega))).trans h.2.2.1, fun j => (hb.cell (p := ⟨ge, j, none⟩) (Nat.lt_of_lt_of_le he l)).trans (h.2.2.2 j)⟩
end Go.Proofs.YteegkhnikcioiaaGreatDoor

namespace Go.Proofs.YteegkhnikcioiaaGreatDoor
open Go.ChangeShapes Go.WideShapes Go.ChangeAt Go.RowKit
open Cpu (Cp In Ac En decOk decI accA rightB)
attribute [local go_sem ↓] Cpu.loadCpu_seal Cpu.storeCpu_seal Cpu.loadIn_seal Cpu.storeIn_seal Cpu.loadAc_seal Cpu.storeAc_seal Cpu.loadEn_seal Cpu.storeEn_seal
attribute [local go_sem] Cpu.loadCpu_run Cpu.storeCpu_run Cpu.loadIn_run Cpu.storeIn_run Cpu.rowAt_at Cpu.rowAt_past Cpu.rowAt_drew Cpu.rowAt_drewN Cpu.roomCpu_new Cpu.roomIn_new Cpu.roomAt_old Cpu.roomAt_drew Cpu.roomAt_drewN Cpu.putCpu_new Cpu.putIn_new Cpu.Cp.zero_fold Cpu.In.fold Cpu.putRow_past Cpu.rowCpu_put Cpu.rowIn_put Cpu.size_put Cpu.putRow_drew Cpu.putRow_drewN Cpu.alloc_drewN Cpu.setCell_drewN Cpu.Cp.at16 Cpu.Cp.at17 Cpu.Cp.at18 Cpu.Cp.at19 Cpu.Cp.at20 Cpu.Cp.at21 Cpu.Cp.size Cpu.Cp.set16 Cpu.Cp.set17 Cpu.Cp.set18 Cpu.Cp.set19 Cpu.Cp.set20 Cpu.Cp.set21 Cpu.In.at0 Cpu.In.at1 Cpu.In.at2 Cpu.In.at3 Cpu.In.at4 Cpu.In.at5 Cpu.In.at6 Cpu.In.at7 Cpu.In.size Cpu.In.set0 Cpu.In.set1 Cpu.In.set2 Cpu.In.set3 Cpu.In.ne Cpu.Cp.ne Cpu.In.set4 Cpu.In.set5 Cpu.In.set6 Cpu.In.set7 loadMid_run storeMid_run mc_size mc_cpu Cpu.loadAc_run Cpu.storeAc_run Cpu.loadEn_run Cpu.storeEn_run Cpu.putAc_new Cpu.putEn_new Cpu.roomAc_new Cpu.roomEn_new Cpu.rowAc_put Cpu.rowEn_put Cpu.Ac.at0 Cpu.Ac.at1 Cpu.Ac.at2 Cpu.Ac.size Cpu.Ac.ne Cpu.Ac.fold Cpu.En.at0 Cpu.En.at1 Cpu.En.at2 Cpu.En.at3 Cpu.En.size Cpu.En.set0 Cpu.En.set1 Cpu.En.set2 Cpu.En.set3 Cpu.Ac.set0 Cpu.Ac.set1 Cpu.Ac.set2 Cpu.En.ne Cpu.En.fold
set_option linter.unusedVariables false
attribute [local go_sem ↓] Cpu.eqlCpu_seal

def fedM (m : Ms) (s : ByteArray) : Ms := { m with L := m.L.fed s }
theorem fed_m (L : Lg) (s : ByteArray) : (L.fed s).m = L.m := by
  unfold Lg.fed
  split <;> rfl
set_option maxHeartbeats 4000000 in
set_option maxRecDepth 20000 in
theorem cuts_ok (a : Option Addr) (len cap : Nat) (f : Nat → Int) (en sec cut : Int) (s : ByteArray) (w : World) (hW : Cpu.Ways w) (hr : RdW w a len f) (hlen : len ≤ 35184372087808) (e0 : 0 ≤ en) (e1 : en ≤ 4294967295) (hg : goodS len en = true) (hsz : s.size ≤ maxLen) (hc : 0 ≤ cut) (hcb : cut ≤ 9223372036854775807) : Calls Tryz.prog 7 #[.agg #[.slice a len cap, .int .u32 en, .int .i64 sec], .string s, .int .i64 cut] w fun e w' => e = .returned (.bool true) ∧ Below w.heap.size w w' := by
  have HR : Hid (RdW w a len f) := hr
  have HW : Hid (Cpu.Ways w) := hW
  have HS : Hid (Starts w a len cap en sec (w.alloc (.cells #[.slice a len cap, .int .u32 en, .int .i64 sec] 25))) := Starts.begin _ _ _ _ _ _
  have hcn : ¬ cut < 0 := by omega
  clear hr hW
  go_enter Tryz.func7, Tryz.ntmps7
  go_upto_region 12 with (first
    | (go_at_call 9; refine (mshown_any _ (HW.out.alloc _)).mono ?_; rintro e w1 ⟨rfl, b1⟩; have H1 : Hid (Starts w a len cap en sec w1) := HS.out.next b1; have c0 := H1.out.c0; have c1 := H1.out.c1; have c2 := H1.out.c2; clear b1)
    | (go_at_call 10; have hx := H2; clear hx; refine (made_good a len cap f en sec _ (HW.out.below H2.out.1.below HW.out.big) (HR.out.over H2.out.1.below) hlen e0 e1 hg).mono ?_; rintro e w3 ⟨q, c, Q, D2, v3, k3, rfl, hM, hD2⟩; have H3 : Hid (MDuo w w3 p b P (Ms.new f len D en) q c Q (Ms.new f len D en)) := MDuo.begin H2.out.2.1 (by rw [new_same f len en H2.out.2.2 hD2]; exact hM); clear hM hD2)
    | (go_at_call 10; refine (made_good a len cap f en sec _ (HW.out.below H1.out.below HW.out.big) (HR.out.over H1.out.below) hlen e0 e1 hg).mono ?_; rintro e w2 ⟨p, b, P, D, v2, k2, rfl, hM, hD⟩; have H2 : Hid (Starts w a len cap en sec w2 ∧ MOwn w p b P (Ms.new f len D en) w2 ∧ (D.n = secN sec ∧ D.m = 0 ∧ D.S = (fun _ _ => 0))) := ⟨H1.out.next hM.below, ⟨hM.mac, (H1.out.next hM.below).below, fun x hx => Nat.le_trans H1.out.below.size (hM.new x hx)⟩, hD⟩; have d0 := H2.out.1.c0; have d1 := H2.out.1.c1; have d2 := H2.out.1.c2; clear hM hD)
    | (go_at_call 14; have hx := H4; clear hx; refine (mfeed_any H4.out.two.mac s hsz).mono ?_; rintro e w5 ⟨rfl, Q5, hS⟩; have H5 : Hid (MDuo w w5 p b P4 (fedM (Ms.new f len D en) s) q c Q5 (fedM (Ms.new f len D en) s)) := H4.out.snd hS; clear hS)
    | (go_at_call 14; refine (mfeed_any H3.out.one.mac s hsz).mono ?_; rintro e w4 ⟨rfl, P4, hS⟩; have H4 : Hid (MDuo w w4 p b P4 (fedM (Ms.new f len D en) s) q c Q (Ms.new f len D en)) := H3.out.fst hS; clear hS)
    | (go_at_call 25; refine (mcutAt_any H5.out.one.mac cut ⟨by omega, hcb⟩).mono ?_; rintro e w6 ⟨rfl, hS⟩; have H6 : Hid (MDuo w w6 p b P4 { fedM (Ms.new f len D en) s with cut := cut } q c Q5 (fedM (Ms.new f len D en) s)) := H5.out.fst hS; clear hS)
    | (go_at_call 15; have hx := H7; clear hx; refine (whole_run (H7.out.1.next (al _)).two.mac rfl H7.out.2).mono ?_; rintro e w8 ⟨E8, Q8, rfl, hS⟩; have H8 : Hid (MDuo w w8 p b P7 A q c Q8 A.whole ∧ CutF (fedM (Ms.new f len D en) s) cut E A ∧ Kept w8 p b P7 q c Q8 w7.heap.size E.cells) := ⟨(H7.out.1.next (al _)).snd hS, H7.out.2, (Kept.new H7.out.1 _ _).snd hS⟩; clear hS)
    | (go_at_call 15; refine (cut_run (m := fedM (Ms.new f len D en) s) H6.out.one.mac hc rfl ((fed_m _ _).trans H2.out.2.2.2.1) rfl).mono ?_; rintro e w7 ⟨E, P7, A, rfl, hS, hF⟩; have H7 : Hid (MDuo w w7 p b P7 A q c Q5 (fedM (Ms.new f len D en) s) ∧ CutF (fedM (Ms.new f len D en) s) cut E A) := ⟨H6.out.fst hS, hF⟩; clear hS hF)
    | (go_at_call 19; refine (mdisk_any H8.out.1.one.mac).mono ?_; rintro e w9 ⟨rfl, hw⟩; obtain rfl := hw.symm; clear hw)
    | (go_at_call 26; refine (writes_len H8.out.1.one.mac).mono ?_; rintro e w10 ⟨g, rfl, hb⟩; have H10 : Hid (MDuo w w10 p b P7 A q c Q8 A.whole ∧ CutF (fedM (Ms.new f len D en) s) cut E A ∧ Kept w10 p b P7 q c Q8 w7.heap.size E.cells) := ⟨H8.out.1.next hb, H8.out.2.1, H8.out.2.2.next hb⟩; clear hb))
  clear H8 H7 H6 H5 H4 H3 H2 H1 HS HR
  have CF := H10.out.2.1
  obtain ⟨ke, te, ae, se⟩ := E
  rcases CF.k with ⟨hk, hm, hgn⟩ | ⟨hk, hm⟩
  · obtain rfl : ke = 7 := hk
    have HG : Hid (A.gone = true ∧ A.st ≤ 3000) := ⟨hgn, CF.st.2⟩
    have hme : ((A.L.m : Int) == cut) = true := by simpa using hm
    have cE : ∀ j, w10.cell? ⟨w7.heap.size, j, none⟩ = (⟨7, te, ae, se⟩ : En).cells[j]? := Cpu.rowAt_cell H10.out.2.2.row
    clear CF hgn
    go_upto_region 17 with (first
      | (go_at_call 15; refine (gone_run H10.out.1.one.mac HG.out.1 HG.out.2).mono ?_; rintro e w11 ⟨rfl, P11, hS⟩; have H11 : Hid (MDuo w w11 p b P11 A q c Q8 A.whole ∧ Kept w11 p b P11 q c Q8 w7.heap.size (⟨7, te, ae, se⟩ : En).cells) := ⟨H10.out.1.fst hS, H10.out.2.2.fst hS⟩; clear hS)
      | (go_at_call 16; have hx := H12; clear hx; refine (mcpu_whole (H12.out.1.next (al _)).two.mac).mono ?_; rintro e w13 ⟨rfl, hb⟩; have H13 : Hid (MDuo w w13 p b P11 A q c Q8 A.whole ∧ Kept w13 p b P11 q c Q8 w7.heap.size (⟨7, te, ae, se⟩ : En).cells ∧ Kept w13 p b P11 q c Q8 w11.heap.size (⟨7, 0, 0, 0⟩ : En).cells ∧ Kept w13 p b P11 q c Q8 w12.heap.size A.c.cells) := ⟨(H12.out.1.next (al _)).next hb, (H12.out.2.1.next (al _)).next hb, (H12.out.2.2.next (al _)).next hb, (Kept.new H12.out.1 _ _).next hb⟩; have f1 : ∀ o j, (w13.alloc o).cell? ⟨w7.heap.size, j, none⟩ = (⟨7, te, ae, se⟩ : En).cells[j]? := (fun o => Cpu.rowAt_cell (H13.out.2.1.next (al o)).row); have f2 : ∀ o j, (w13.alloc o).cell? ⟨w11.heap.size, j, none⟩ = (⟨7, 0, 0, 0⟩ : En).cells[j]? := (fun o => Cpu.rowAt_cell (H13.out.2.2.1.next (al o)).row); clear hb)
      | (go_at_call 16; refine (mcpu_any (H11.out.1.next (al _)).one.mac).mono ?_; rintro e w12 ⟨rfl, hb⟩; have H12 : Hid (MDuo w w12 p b P11 A q c Q8 A.whole ∧ Kept w12 p b P11 q c Q8 w7.heap.size (⟨7, te, ae, se⟩ : En).cells ∧ Kept w12 p b P11 q c Q8 w11.heap.size (⟨7, 0, 0, 0⟩ : En).cells) := ⟨(H11.out.1.next (al _)).next hb, (H11.out.2.next (al _)).next hb, (Kept.new H11.out.1 _ _).next hb⟩; clear hb))
    have B0 := H13.out.1.next (al (.cells A.c.cells 45))
    have k1 := H13.out.2.1.next (al (.cells A.c.cells 45))
    have k2 := H13.out.2.2.2.next (al (.cells A.c.cells 45))
    have k3 := Kept.new H13.out.1 A.c.cells 45
    have hcq := H13.out.1.one.mac.ok.c
    have hq0 : ∀ X, (Cpu.eqlCpu (.agg A.c.cells) (.agg A.c.cells)).run Tryz.prog X = .ok (.bool true) X := fun X => Cpu.eqlCpu_same A.c hcq X
    generalize w13.alloc (.cells A.c.cells 45) = V at *
    have HD1 : Hid (∀ X, Below V.heap.size V X → DiskAt X p P11.db) := fun X hX => B0.one.mac.diskAt.below hX
    have HD2 : Hid (∀ X, Below V.heap.size V X → DiskAt X q Q8.db) := fun X hX => B0.two.mac.diskAt.below hX
    have HI1 : Hid (∀ X, Below V.heap.size V X → ImgAt X P11.db A.L.n A.L.S) := fun X hX => B0.one.mac.img.below hX
    have HI2 : Hid (∀ X, Below V.heap.size V X → ImgAt X Q8.db A.L.n A.L.S) := fun X hX => B0.two.mac.img.below hX
    have HV : Hid (Below w.heap.size w V) := B0.one.below
    have l1 := k1.lt
    have l2 := k2.lt
    have l3 := k3.lt
    have s0 : Below V.heap.size V V ∧ Cpu.rowAt V w12.heap.size = some A.c.cells ∧ Cpu.rowAt V w13.heap.size = some A.c.cells ∧ (∀ j, V.cell? ⟨w7.heap.size, j, none⟩ = (⟨7, te, ae, se⟩ : En).cells[j]?) := ⟨Below.refl _ _, k2.row, k3.row, Cpu.rowAt_cell k1.row⟩
    clear B0 k1 k2 k3 H13 H12 H11 H10 HG f1 f2 cE
    first | (go_region_held (fun X => Below V.heap.size V X ∧ Cpu.rowAt X w12.heap.size = some A.c.cells ∧ Cpu.rowAt X w13.heap.size = some A.c.cells ∧ (∀ j, X.cell? ⟨w7.heap.size, j, none⟩ = (⟨7, te, ae, se⟩ : En).cells[j]?)) (first | exact cs_next (drB _) l1 l2 l3 s0 | assumption | exact cs_next (by assumption) l1 l2 l3 (by assumption)) (first
      | (go_at_call 19; refine (diskAt_any (by first | exact HD1.out _ (by assumption : Below V.heap.size V _ ∧ _).1 | exact HD2.out _ (by assumption : Below V.heap.size V _ ∧ _).1)).mono ?_; rintro e v ⟨rfl, hw⟩; obtain rfl := hw.symm; clear hw)
      | (go_at_call 20; have hx := HQ; clear hx; refine (imgAt_any (n := A.L.n) (F := A.L.S) (by first | exact HI1.out _ (by assumption : Below V.heap.size V _ ∧ _).1 | exact HI2.out _ (by assumption : Below V.heap.size V _ ∧ _).1)).mono ?_; rintro e v ⟨g2, c2, rfl, hb, hq⟩; have hq2 := hq v (Below.refl _ _); have hq1 := HQ.out v hb; clear hq)
      | (go_at_call 20; refine (imgAt_any (n := A.L.n) (F := A.L.S) (by first | exact HI1.out _ (by assumption : Below V.heap.size V _ ∧ _).1 | exact HI2.out _ (by assumption : Below V.heap.size V _ ∧ _).1)).mono ?_; rintro e u ⟨g1, c1, rfl, hb, hq⟩; have hq1 := hq u (Below.refl _ _); have HQ : Hid (∀ Z, Below u.heap.size u Z → (convert 49 9 (.slice (some ⟨g1, 0, none⟩) (A.L.n * 1024) c1)).run Tryz.prog Z = .ok (.string (strF (imgF A.L.S) (A.L.n * 1024))) Z) := hq; clear hq))) | fail
    all_goals
      have hz : Below w.heap.size w _ := HV.out.trans (Below.mono (by assumption : Below V.heap.size V _ ∧ _).1 HV.out.size)
      go_wp2_with fail
      go_ret
      exact ⟨by first | rfl | simp, hz⟩
  · have hke : ke = 1 ∨ ke = 2 ∨ ke = 3 ∨ ke = 4 ∨ ke = 5 ∨ ke = 6 := by
      have h1 : 1 ≤ ke ∧ ke ≤ 7 := CF.kb
      have h2 : ke ≠ 7 := hk
      omega
    have hmc : ¬ cut ≤ (A.L.m : Int) := by have : (A.L.m : Int) < cut := hm; omega
    have hmd : decide (cut ≤ (A.L.m : Int)) = false := by simpa using hmc
    have HG : Hid (A.st ≤ 3000) := CF.st.2
    clear CF hm hk
    rcases hke with rfl | rfl | rfl | rfl | rfl | rfl
    · go_upto_region 17 with (first
        | (go_at_call 15; refine (some_run H10.out.1.one.mac HG.out).mono ?_; rintro e w11 ⟨E2, P11, A2, rfl, hS⟩; have H11 : Hid (MDuo w w11 p b P11 A2 q c Q8 A.whole ∧ Kept w11 p b P11 q c Q8 w7.heap.size (⟨1, te, ae, se⟩ : En).cells) := ⟨H10.out.1.fst hS, H10.out.2.2.fst hS⟩; clear hS)
        | (go_at_call 16; have hx := H12; clear hx; refine (mcpu_whole (H12.out.1.next (al _)).two.mac).mono ?_; rintro e w13 ⟨rfl, hb⟩; have H13 : Hid (MDuo w w13 p b P11 A2 q c Q8 A.whole ∧ Kept w13 p b P11 q c Q8 w7.heap.size (⟨1, te, ae, se⟩ : En).cells) := ⟨(H12.out.1.next (al _)).next hb, (H12.out.2.next (al _)).next hb⟩; have f1 : ∀ o j, (w13.alloc o).cell? ⟨w7.heap.size, j, none⟩ = (⟨1, te, ae, se⟩ : En).cells[j]? := (fun o => Cpu.rowAt_cell (H13.out.2.next (al o)).row); clear hb)
        | (go_at_call 16; refine (mcpu_any (H11.out.1.next (al _)).one.mac).mono ?_; rintro e w12 ⟨rfl, hb⟩; have H12 : Hid (MDuo w w12 p b P11 A2 q c Q8 A.whole ∧ Kept w12 p b P11 q c Q8 w7.heap.size (⟨1, te, ae, se⟩ : En).cells) := ⟨(H11.out.1.next (al _)).next hb, (H11.out.2.next (al _)).next hb⟩; clear hb))
      have HV0 := (H13.out.1.next (al (.cells A.c.cells 45))).one.below
      have f2 := f1 (.cells A.c.cells 45)
      clear f1
      generalize w13.alloc (.cells A.c.cells 45) = V at *
      have HV : Hid (Below w.heap.size w V) := HV0
      clear H13 H12 H11 H10 HG HV0
      go_quiet (fail)
      go_wp2_with fail
      go_ret
      exact ⟨by first | rfl | simp, HV.out.trans ((drewNB V _).mono HV.out.size)⟩
    · go_upto_region 17 with (first
        | (go_at_call 15; refine (some_run H10.out.1.one.mac HG.out).mono ?_; rintro e w11 ⟨E2, P11, A2, rfl, hS⟩; have H11 : Hid (MDuo w w11 p b P11 A2 q c Q8 A.whole ∧ Kept w11 p b P11 q c Q8 w7.heap.size (⟨2, te, ae, se⟩ : En).cells) := ⟨H10.out.1.fst hS, H10.out.2.2.fst hS⟩; clear hS)
        | (go_at_call 16; have hx := H12; clear hx; refine (mcpu_whole (H12.out.1.next (al _)).two.mac).mono ?_; rintro e w13 ⟨rfl, hb⟩; have H13 : Hid (MDuo w w13 p b P11 A2 q c Q8 A.whole ∧ Kept w13 p b P11 q c Q8 w7.heap.size (⟨2, te, ae, se⟩ : En).cells) := ⟨(H12.out.1.next (al _)).next hb, (H12.out.2.next (al _)).next hb⟩; have f1 : ∀ o j, (w13.alloc o).cell? ⟨w7.heap.size, j, none⟩ = (⟨2, te, ae, se⟩ : En).cells[j]? := (fun o => Cpu.rowAt_cell (H13.out.2.next (al o)).row); clear hb)
        | (go_at_call 16; refine (mcpu_any (H11.out.1.next (al _)).one.mac).mono ?_; rintro e w12 ⟨rfl, hb⟩; have H12 : Hid (MDuo w w12 p b P11 A2 q c Q8 A.whole ∧ Kept w12 p b P11 q c Q8 w7.heap.size (⟨2, te, ae, se⟩ : En).cells) := ⟨(H11.out.1.next (al _)).next hb, (H11.out.2.next (al _)).next hb⟩; clear hb))
      have HV0 := (H13.out.1.next (al (.cells A.c.cells 45))).one.below
      have f2 := f1 (.cells A.c.cells 45)
      clear f1
      generalize w13.alloc (.cells A.c.cells 45) = V at *
      have HV : Hid (Below w.heap.size w V) := HV0
      clear H13 H12 H11 H10 HG HV0
      go_quiet (fail)
      go_wp2_with fail
      go_ret
      exact ⟨by first | rfl | simp, HV.out.trans ((drewNB V _).mono HV.out.size)⟩
    · go_upto_region 17 with (first
        | (go_at_call 15; refine (some_run H10.out.1.one.mac HG.out).mono ?_; rintro e w11 ⟨E2, P11, A2, rfl, hS⟩; have H11 : Hid (MDuo w w11 p b P11 A2 q c Q8 A.whole ∧ Kept w11 p b P11 q c Q8 w7.heap.size (⟨3, te, ae, se⟩ : En).cells) := ⟨H10.out.1.fst hS, H10.out.2.2.fst hS⟩; clear hS)
        | (go_at_call 16; have hx := H12; clear hx; refine (mcpu_whole (H12.out.1.next (al _)).two.mac).mono ?_; rintro e w13 ⟨rfl, hb⟩; have H13 : Hid (MDuo w w13 p b P11 A2 q c Q8 A.whole ∧ Kept w13 p b P11 q c Q8 w7.heap.size (⟨3, te, ae, se⟩ : En).cells) := ⟨(H12.out.1.next (al _)).next hb, (H12.out.2.next (al _)).next hb⟩; have f1 : ∀ o j, (w13.alloc o).cell? ⟨w7.heap.size, j, none⟩ = (⟨3, te, ae, se⟩ : En).cells[j]? := (fun o => Cpu.rowAt_cell (H13.out.2.next (al o)).row); clear hb)
        | (go_at_call 16; refine (mcpu_any (H11.out.1.next (al _)).one.mac).mono ?_; rintro e w12 ⟨rfl, hb⟩; have H12 : Hid (MDuo w w12 p b P11 A2 q c Q8 A.whole ∧ Kept w12 p b P11 q c Q8 w7.heap.size (⟨3, te, ae, se⟩ : En).cells) := ⟨(H11.out.1.next (al _)).next hb, (H11.out.2.next (al _)).next hb⟩; clear hb))
      have HV0 := (H13.out.1.next (al (.cells A.c.cells 45))).one.below
      have f2 := f1 (.cells A.c.cells 45)
      clear f1
      generalize w13.alloc (.cells A.c.cells 45) = V at *
      have HV : Hid (Below w.heap.size w V) := HV0
      clear H13 H12 H11 H10 HG HV0
      go_quiet (fail)
      go_wp2_with fail
      go_ret
      exact ⟨by first | rfl | simp, HV.out.trans ((drewNB V _).mono HV.out.size)⟩
    · go_upto_region 17 with (first
        | (go_at_call 15; refine (some_run H10.out.1.one.mac HG.out).mono ?_; rintro e w11 ⟨E2, P11, A2, rfl, hS⟩; have H11 : Hid (MDuo w w11 p b P11 A2 q c Q8 A.whole ∧ Kept w11 p b P11 q c Q8 w7.heap.size (⟨4, te, ae, se⟩ : En).cells) := ⟨H10.out.1.fst hS, H10.out.2.2.fst hS⟩; clear hS)
        | (go_at_call 16; have hx := H12; clear hx; refine (mcpu_whole (H12.out.1.next (al _)).two.mac).mono ?_; rintro e w13 ⟨rfl, hb⟩; have H13 : Hid (MDuo w w13 p b P11 A2 q c Q8 A.whole ∧ Kept w13 p b P11 q c Q8 w7.heap.size (⟨4, te, ae, se⟩ : En).cells) := ⟨(H12.out.1.next (al _)).next hb, (H12.out.2.next (al _)).next hb⟩; have f1 : ∀ o j, (w13.alloc o).cell? ⟨w7.heap.size, j, none⟩ = (⟨4, te, ae, se⟩ : En).cells[j]? := (fun o => Cpu.rowAt_cell (H13.out.2.next (al o)).row); clear hb)
        | (go_at_call 16; refine (mcpu_any (H11.out.1.next (al _)).one.mac).mono ?_; rintro e w12 ⟨rfl, hb⟩; have H12 : Hid (MDuo w w12 p b P11 A2 q c Q8 A.whole ∧ Kept w12 p b P11 q c Q8 w7.heap.size (⟨4, te, ae, se⟩ : En).cells) := ⟨(H11.out.1.next (al _)).next hb, (H11.out.2.next (al _)).next hb⟩; clear hb))
      have HV0 := (H13.out.1.next (al (.cells A.c.cells 45))).one.below
      have f2 := f1 (.cells A.c.cells 45)
      clear f1
      generalize w13.alloc (.cells A.c.cells 45) = V at *
      have HV : Hid (Below w.heap.size w V) := HV0
      clear H13 H12 H11 H10 HG HV0
      go_quiet (fail)
      go_wp2_with fail
      go_ret
      exact ⟨by first | rfl | simp, HV.out.trans ((drewNB V _).mono HV.out.size)⟩
    · go_upto_region 17 with (first
        | (go_at_call 15; refine (some_run H10.out.1.one.mac HG.out).mono ?_; rintro e w11 ⟨E2, P11, A2, rfl, hS⟩; have H11 : Hid (MDuo w w11 p b P11 A2 q c Q8 A.whole ∧ Kept w11 p b P11 q c Q8 w7.heap.size (⟨5, te, ae, se⟩ : En).cells) := ⟨H10.out.1.fst hS, H10.out.2.2.fst hS⟩; clear hS)
        | (go_at_call 16; have hx := H12; clear hx; refine (mcpu_whole (H12.out.1.next (al _)).two.mac).mono ?_; rintro e w13 ⟨rfl, hb⟩; have H13 : Hid (MDuo w w13 p b P11 A2 q c Q8 A.whole ∧ Kept w13 p b P11 q c Q8 w7.heap.size (⟨5, te, ae, se⟩ : En).cells) := ⟨(H12.out.1.next (al _)).next hb, (H12.out.2.next (al _)).next hb⟩; have f1 : ∀ o j, (w13.alloc o).cell? ⟨w7.heap.size, j, none⟩ = (⟨5, te, ae, se⟩ : En).cells[j]? := (fun o => Cpu.rowAt_cell (H13.out.2.next (al o)).row); clear hb)
        | (go_at_call 16; refine (mcpu_any (H11.out.1.next (al _)).one.mac).mono ?_; rintro e w12 ⟨rfl, hb⟩; have H12 : Hid (MDuo w w12 p b P11 A2 q c Q8 A.whole ∧ Kept w12 p b P11 q c Q8 w7.heap.size (⟨5, te, ae, se⟩ : En).cells) := ⟨(H11.out.1.next (al _)).next hb, (H11.out.2.next (al _)).next hb⟩; clear hb))
      have HV0 := (H13.out.1.next (al (.cells A.c.cells 45))).one.below
      have f2 := f1 (.cells A.c.cells 45)
      clear f1
      generalize w13.alloc (.cells A.c.cells 45) = V at *
      have HV : Hid (Below w.heap.size w V) := HV0
      clear H13 H12 H11 H10 HG HV0
      go_quiet (fail)
      go_wp2_with fail
      go_ret
      exact ⟨by first | rfl | simp, HV.out.trans ((drewNB V _).mono HV.out.size)⟩
    · go_upto_region 17 with (first
        | (go_at_call 15; refine (some_run H10.out.1.one.mac HG.out).mono ?_; rintro e w11 ⟨E2, P11, A2, rfl, hS⟩; have H11 : Hid (MDuo w w11 p b P11 A2 q c Q8 A.whole ∧ Kept w11 p b P11 q c Q8 w7.heap.size (⟨6, te, ae, se⟩ : En).cells) := ⟨H10.out.1.fst hS, H10.out.2.2.fst hS⟩; clear hS)
        | (go_at_call 16; have hx := H12; clear hx; refine (mcpu_whole (H12.out.1.next (al _)).two.mac).mono ?_; rintro e w13 ⟨rfl, hb⟩; have H13 : Hid (MDuo w w13 p b P11 A2 q c Q8 A.whole ∧ Kept w13 p b P11 q c Q8 w7.heap.size (⟨6, te, ae, se⟩ : En).cells) := ⟨(H12.out.1.next (al _)).next hb, (H12.out.2.next (al _)).next hb⟩; have f1 : ∀ o j, (w13.alloc o).cell? ⟨w7.heap.size, j, none⟩ = (⟨6, te, ae, se⟩ : En).cells[j]? := (fun o => Cpu.rowAt_cell (H13.out.2.next (al o)).row); clear hb)
        | (go_at_call 16; refine (mcpu_any (H11.out.1.next (al _)).one.mac).mono ?_; rintro e w12 ⟨rfl, hb⟩; have H12 : Hid (MDuo w w12 p b P11 A2 q c Q8 A.whole ∧ Kept w12 p b P11 q c Q8 w7.heap.size (⟨6, te, ae, se⟩ : En).cells) := ⟨(H11.out.1.next (al _)).next hb, (H11.out.2.next (al _)).next hb⟩; clear hb))
      have HV0 := (H13.out.1.next (al (.cells A.c.cells 45))).one.below
      have f2 := f1 (.cells A.c.cells 45)
      clear f1
      generalize w13.alloc (.cells A.c.cells 45) = V at *
      have HV : Hid (Below w.heap.size w V) := HV0
      clear H13 H12 H11 H10 HG HV0
      go_quiet (fail)
      go_wp2_with fail
      go_ret
      exact ⟨by first | rfl | simp, HV.out.trans ((drewNB V _).mono HV.out.size)⟩
theorem cuts_any (a : Option Addr) (len cap : Nat) (f : Nat → Int) (en sec cut : Int) (s : ByteArray) (w : World) (hW : Cpu.Ways w) (hr : RdW w a len f) (hlen : len ≤ 35184372087808) (e0 : 0 ≤ en) (e1 : en ≤ 4294967295) (hsz : s.size ≤ maxLen) (hcb : i64B cut) : Calls Tryz.prog 7 #[.agg #[.slice a len cap, .int .u32 en, .int .i64 sec], .string s, .int .i64 cut] w fun e w' => e = .returned (.bool true) ∧ Below w.heap.size w w' := by
  cases hg : goodS len en
  · exact cuts_no a len cap f en sec cut s w hW hr hlen e0 e1 hg
  · by_cases hc : cut < 0
    · exact cuts_neg a len cap f en sec cut s w hW hr hlen e0 e1 hg hc
    · exact cuts_ok a len cap f en sec cut s w hW hr hlen e0 e1 hg hsz (by omega) hcb.2
end Go.Proofs.YteegkhnikcioiaaGreatDoor
