/-
  The law's walk: words and instructions are each other's.
-/
import Derived.Test.YtkhgeldnlffgjaaDoorDoor
import Derived.Deep.Light
namespace Go.Proofs.YtkhgeldnlffgjaaDoor
open Go.ChangeShapes Go.WideShapes Go.ChangeAt Go.RowKit
attribute [local go_sem ↓] loadCpu_seal storeCpu_seal loadIn_seal storeIn_seal
attribute [local go_sem] loadCpu_run storeCpu_run loadIn_run storeIn_run rowAt_at rowAt_past rowAt_drew rowAt_drewN roomCpu_new roomIn_new roomAt_old roomAt_drew roomAt_drewN putCpu_new putIn_new Cp.zero_fold In.fold putRow_past rowCpu_put rowIn_put size_put putRow_drew putRow_drewN alloc_drewN setCell_drewN Cp.at16 Cp.at17 Cp.at18 Cp.at19 Cp.at20 Cp.at21 Cp.size Cp.set16 Cp.set17 Cp.set18 Cp.set19 Cp.set20 Cp.set21 In.at0 In.at1 In.at2 In.at3 In.at4 In.at5 In.at6 In.at7 In.size In.set0 In.set1 In.set2 In.set3 In.ne Cp.ne In.set4 In.set5 In.set6 In.set7

theorem fI (x : Int) : fldI x 30 2 = x / 1073741824 % 4 ∧ fldI x 29 1 = x / 536870912 % 2 ∧ fldI x 28 1 = x / 268435456 % 2 ∧ fldI x 24 4 = x / 16777216 % 16 ∧ fldI x 20 4 = x / 1048576 % 16 ∧ fldI x 16 4 = x / 65536 % 16 ∧ fldI x 0 4 = x % 16 ∧ fldI x 0 16 = x % 65536 := by
  simp [fldI]
theorem sext_20 (x : Int) : sext x 20 = if x % 1048576 < 524288 then x % 1048576 else x % 1048576 - 1048576 := by
  simp [sext, sx]
theorem sext_24 (x : Int) : sext x 24 = if x % 16777216 < 8388608 then x % 16777216 else x % 16777216 - 16777216 := by
  simp [sext, sx]
theorem bit_one (x : Int) (u : Bool) (h : x = bit u) : (x == 1) = u := by
  subst h; cases u <;> rfl
theorem pack_bd (i : In) (h : Rt i) : 0 ≤ packV i ∧ packV i ≤ 4294967295 := by
  obtain ⟨hA, hB, hC, hF⟩ := h
  have hu := bit_bd i.U
  have hv := bit_bd i.V
  unfold packV hiV
  rcases hF with ⟨hF, hN, o0, o1⟩ | ⟨hF, hC, n0, n1, o0, o1⟩ | ⟨hF, hC, hO, n0, n1⟩ | ⟨hF, hB, hO, hn⟩ <;> simp only [hF] <;> simp <;> omega
set_option maxHeartbeats 2000000 in
theorem unpack_of (F A B O C N p : Int) (U V : Bool) (hA : 0 ≤ A ∧ A < 16) (hB : 0 ≤ B ∧ B < 16) (hC : 0 ≤ C ∧ C < 16)
    (h : F = 0 ∧ N = 0 ∧ 0 ≤ O ∧ O < 16 ∧ p = bit U * 536870912 + bit V * 268435456 + A * 16777216 + (B * 1048576 + O * 65536 + C)
      ∨ F = 1 ∧ C = 0 ∧ 0 ≤ N ∧ N < 65536 ∧ 0 ≤ O ∧ O < 16 ∧ p = 1073741824 + bit U * 536870912 + bit V * 268435456 + A * 16777216 + (B * 1048576 + O * 65536 + N)
      ∨ F = 2 ∧ C = 0 ∧ O = 0 ∧ -524288 ≤ N ∧ N ≤ 524287 ∧ p = 2147483648 + bit U * 536870912 + bit V * 268435456 + A * 16777216 + (B * 1048576 + N % 1048576)
      ∨ F = 3 ∧ B = 0 ∧ O = 0 ∧ (U = true ∧ C = 0 ∧ -8388608 ≤ N ∧ N ≤ 8388607 ∨ U = false ∧ N = 0) ∧ p = 3221225472 + bit U * 536870912 + bit V * 268435456 + A * 16777216 + (C + N % 16777216)) :
    unpackI p = { F := F, U := U, V := V, A := A, B := B, O := O, C := C, N := N } := by
  have hu := bit_bd U
  have hv := bit_bd V
  obtain ⟨g30, g29, g28, g24, g20, g16, g0, gn⟩ := fI p
  have s20 := sext_20 p
  have s24 := sext_24 p
  have kU := bit_one (fldI p 29 1) U (by rcases h with h | h | h | h <;> omega)
  have kV := bit_one (fldI p 28 1) V (by rcases h with h | h | h | h <;> omega)
  have kA : fldI p 24 4 = A := by rcases h with h | h | h | h <;> omega
  rcases h with ⟨rfl, rfl, o0, o1, hp⟩ | ⟨rfl, rfl, n0, n1, o0, o1, hp⟩ | ⟨rfl, rfl, rfl, n0, n1, hp⟩ | ⟨rfl, rfl, rfl, hn, hp⟩
  · have k30 : fldI p 30 2 = 0 := by omega
    have kB : fldI p 20 4 = B := by omega
    have kO : fldI p 16 4 = O := by omega
    have kC : fldI p 0 4 = C := by omega
    clear g30 g29 g28 g24 g20 g16 g0 gn s20 s24 hp
    simp [unpackI, k30, kU, kV, kA, kB, kO, kC]
  · have k30 : fldI p 30 2 = 1 := by omega
    have kB : fldI p 20 4 = B := by omega
    have kO : fldI p 16 4 = O := by omega
    have kC : fldI p 0 16 = N := by omega
    clear g30 g29 g28 g24 g20 g16 g0 gn s20 s24 hp
    simp [unpackI, k30, kU, kV, kA, kB, kO, kC]
  · have k30 : fldI p 30 2 = 2 := by omega
    have kB : fldI p 20 4 = B := by omega
    have kN : sext p 20 = N := by rw [s20]; split <;> omega
    clear g30 g29 g28 g24 g20 g16 g0 gn s20 s24 hp
    simp [unpackI, k30, kU, kV, kA, kB, kN]
  · have k30 : fldI p 30 2 = 3 := by omega
    rcases hn with ⟨rfl, rfl, n0, n1⟩ | ⟨rfl, rfl⟩
    · have kN : sext p 24 = N := by rw [s24]; split <;> omega
      clear g30 g29 g28 g24 g20 g16 g0 gn s20 s24 hp
      simp [unpackI, k30, kU, kV, kA, kN]
    · have kC : fldI p 0 4 = C := by omega
      clear g30 g29 g28 g24 g20 g16 g0 gn s20 s24 hp
      simp [unpackI, k30, kU, kV, kA, kC]
theorem unpack_pack (i : In) (h : Rt i) : unpackI (packV i) = i := by
  obtain ⟨hA, hB, hC, hF⟩ := h
  refine unpack_of i.F i.A i.B i.O i.C i.N (packV i) i.U i.V hA hB hC ?_
  rcases hF with ⟨hF, hN, o0, o1⟩ | ⟨hF, hC0, n0, n1, o0, o1⟩ | ⟨hF, hC0, hO, n0, n1⟩ | ⟨hF, hB0, hO, hn⟩
  · exact .inl ⟨hF, hN, o0, o1, by simp [packV, hiV, hF]⟩
  · exact .inr (.inl ⟨hF, hC0, n0, n1, o0, o1, by simp [packV, hiV, hF]⟩)
  · exact .inr (.inr (.inl ⟨hF, hC0, hO, n0, n1, by simp [packV, hiV, hF]⟩))
  · exact .inr (.inr (.inr ⟨hF, hB0, hO, hn, by simp [packV, hiV, hF]⟩))
theorem dec_enc (i : In) (h : rightB i = true) : decOk (packV i) = true ∧ decI (packV i) = i := by
  have e := unpack_pack i (right_bd h)
  have ok : decOk (packV i) = true := by unfold decOk; rw [e, h]; simp
  exact ⟨ok, by unfold decI; rw [if_pos ok, e]⟩
theorem Keeps.ways {w X : World} {rows : List (Nat × Array Value)} (k : Keeps w rows X) (hw : Ways w) : Ways X := hw.below k.1 hw.big
def eqlIn (x y : Value) : Sem Value := binOp .eql 24 x y
theorem eqlIn_seal (x y : Value) : binOp .eql 24 x y = eqlIn x y := rfl
def neqIn (x y : Value) : Sem Value := binOp .neq 24 x y
theorem neqIn_seal (x y : Value) : binOp .neq 24 x y = neqIn x y := rfl
theorem eqlIn_same (a : In) (w : World) : (eqlIn (.agg a.cells) (.agg a.cells)).run Tryd.prog w = .ok (.bool true) w := by
  unfold eqlIn
  simp [go_sem, Tryd.underlying24]
theorem neqIn_same (a : In) (w : World) : (neqIn (.agg a.cells) (.agg a.cells)).run Tryd.prog w = .ok (.bool false) w := by
  unfold neqIn
  simp [go_sem, Tryd.underlying24]
attribute [local go_sem ↓] eqlIn_seal neqIn_seal
end Go.Proofs.YtkhgeldnlffgjaaDoor
