/-
  The walk of the law AsmLoose: it returns true.
-/
import Derived.Test.YtkidfnhgknkpiaaGreatDoorLo1
namespace Go.Proofs.YtkidfnhgknkpiaaGreatDoor
set_option linter.unusedVariables false
set_option linter.unusedSimpArgs false
open Go.ChangeShapes Go.WideShapes Go.ChangeAt Go.RowKit
attribute [local go_sem ↓] loadIn_seal storeIn_seal
attribute [local go_sem] loadIn_run storeIn_run rowAt_at rowAt_old rowAt_drew rowAt_drewN roomCpu_new roomIn_new roomAt_old roomAt_drew roomAt_drewN putCpu_new putIn_new Cp.zero_fold In.fold putRow_past rowCpu_put rowIn_put size_put putRow_drew putRow_drewN alloc_drewN setCell_drewN Cp.at16 Cp.at17 Cp.at18 Cp.at19 Cp.at20 Cp.at21 Cp.size Cp.set16 Cp.set17 Cp.set18 Cp.set19 Cp.set20 Cp.set21 In.at0 In.at1 In.at2 In.at3 In.at4 In.at5 In.at6 In.at7 In.size In.set0 In.set1 In.set2 In.set3 In.ne Cp.ne In.set4 In.set5 In.set6 In.set7

/-- A row of bytes that the call itself has made. -/
def OwS (w : World) (B : Nat) (v : Value) (O : Bs) : Prop := w.ownsRow B 5 1 v O.length (Lib.strCells (bs O))
/-- A row of places that was handed in. -/
def PAt (w : World) (a : Option Addr) (M : Nat) (p : Nat → Int) : Prop := ∀ j, j < M → ∃ b off, a = some ⟨b, off, none⟩ ∧ b < w.heap.size ∧ w.cell? ⟨b, off + j, none⟩ = some (.int .i64 (p j))
section
variable (p : Nat → Int) (M : Nat) (T : Bs) (n : Int)
def StA (B : Nat) (wx : World) (i : Nat) (s6 s7 s8 s12 : Value) : Prop := ∃ (a : List Bs) (f : Nat), s7 = .int .i64 ((a.length + 1 : Nat) : Int) ∧ s8 = .int .i64 ((mv p M n a.length : Nat) : Int) ∧ s12 = .int .i64 (f : Int) ∧ OwS wx B s6 (pre p M a 1) ∧
  f ≤ i ∧ i ≤ T.length ∧ parts 10 T = a ++ parts 10 (T.drop f) ∧ (∀ l ∈ a, (10 : UInt8) ∉ l) ∧ (10 : UInt8) ∉ (T.drop f).take (i - f) ∧ a.length ≤ f ∧ (pre p M a 1).length ≤ 5000 * f
def StB (B : Nat) (wx : World) (i : Nat) (s6 s8 : Value) : Prop := i = T.length + 1 ∧ ∃ (a : List Bs) (z : Bs), s8 = .int .i64 ((mv p M n (a.length + 1) : Nat) : Int) ∧ OwS wx B s6 (pre p M a 1 ++ insB p (1 + a.length) M ++ [32, 9] ++ z) ∧
  parts 10 T = a ++ [z] ∧ (∀ l ∈ a ++ [z], (10 : UInt8) ∉ l) ∧ a.length ≤ T.length ∧ (pre p M a 1 ++ insB p (1 + a.length) M ++ [32, 9] ++ z).length ≤ 5000 * (T.length + 1)
end
theorem ix0 (X : World) : (Instr.index 39 (.agg #[.string ⟨#[59, 32, 120, 10]⟩, .string ⟨#[32, 9, 10]⟩, .string ⟨#[13, 10]⟩]) (.int .i64 0)).run Tryz.prog X = .ok (.string ⟨#[59, 32, 120, 10]⟩) X := by kernel_rfl
theorem ix1 (X : World) : (Instr.index 39 (.agg #[.string ⟨#[59, 32, 120, 10]⟩, .string ⟨#[32, 9, 10]⟩, .string ⟨#[13, 10]⟩]) (.int .i64 1)).run Tryz.prog X = .ok (.string ⟨#[32, 9, 10]⟩) X := by kernel_rfl
theorem ix2 (X : World) : (Instr.index 39 (.agg #[.string ⟨#[59, 32, 120, 10]⟩, .string ⟨#[32, 9, 10]⟩, .string ⟨#[13, 10]⟩]) (.int .i64 2)).run Tryz.prog X = .ok (.string ⟨#[13, 10]⟩) X := by kernel_rfl
theorem wpList_index_eq {P : Program} {w : World} {ops : Array Oper} {rest : List Oper} {o : Oper} {a : Act} {Q : Exit → Act → World → Prop} (hgd : o.guard = none) (s x : Operand) (t : TypeId)
    (ho : o.op = .index t s x) (v u r : Value) (hs : a.eval s = v) (hx : a.eval x = u) (hr : (Instr.index t v u).run P w = .ok r w)
    (h : wpList P ops Q rest (a.put o.dst r) w) : wpList P ops Q (o :: rest) a w := by
  refine wpList_plain hgd fun K hK => ?_
  unfold Oper.wp execOp
  simp only [ho, Sem.run_bind, Sem.run_pure, Result.andThen_ok, hs, hx, hr]
  exact hK _ _ h
theorem v8 {m x y : Nat} (h : y = x + 1) : Value.int .i64 ((m : Int) + (x : Int) + 1) = .int .i64 ((m : Int) + (y : Int)) := by
  subst h
  congr 1
theorem ows_app {w : World} {B : Nat} {v : Value} {O : Bs} {s : Bs} {k : Nat} (h : w.ownsRow B 5 1 v (O.length + k) (Lib.strCells (bs O) ++ Lib.strCells (bs s))) (hk : k = s.length) : OwS w B v (O ++ s) := by
  unfold OwS
  rw [List.length_append, ← bcells_app, ← hk]
  exact h
theorem go_line : ∀ (l : List Bs) (n q : Nat) (ws : List Int), goP l n ws = .line q → q ≤ n + l.length
  | [], n, q, ws, e => by simp [goP] at e
  | l :: t, n, q, ws, e => by
    rw [goP] at e
    split at e
    · have := go_line t _ q ws e; simp; omega
    · split at e
      · injection e with e; simp; omega
      · have := go_line t _ q _ e; simp; omega
theorem parse_line (t : Bs) : 0 ≤ parseN t ∧ parseN t ≤ 65537 := by
  unfold parseN
  split
  · omega
  · split
    · omega
    · rename_i h q hq
      have h1 := go_line _ _ _ _ hq
      have h2 := parts_len 10 t
      omega
theorem str_at (t : ByteArray) (i : Nat) (h : i < t.size) : t.data.toList[i]? = some (t[i]'h) := by
  rw [List.getElem?_eq_getElem (by rw [Array.length_toList]; exact h)]; rfl
theorem ch_int {c : UInt8} : (c.toNat : Int) = 10 ↔ c = 10 := by
  constructor
  · intro h; exact UInt8.toNat_inj.1 (by show c.toNat = 10; omega)
  · intro h; rw [h]; rfl
theorem cur_next {T : Bs} {f i : Nat} (hf : f ≤ i) (h : (10 : UInt8) ∉ (T.drop f).take (i - f)) (hc : T[i]? ≠ some 10) : (10 : UInt8) ∉ (T.drop f).take (i + 1 - f) := by
  rw [show i + 1 - f = (i - f) + 1 by omega, List.take_add_one, List.getElem?_drop, show f + (i - f) = i by omega]
  intro hm
  rcases List.mem_append.1 hm with h1 | h1
  · exact h h1
  · exact hc (by simpa using h1)
theorem drop_nl {T : Bs} {f i : Nat} (hf : f ≤ i) (hc : T[i]? = some 10) : T.drop f = (T.drop f).take (i - f) ++ 10 :: T.drop (i + 1) := by
  have h1 := List.take_append_drop (i - f) (T.drop f)
  rw [List.drop_drop, show f + (i - f) = i by omega] at h1
  have hi : i < T.length := (List.getElem?_eq_some_iff.1 hc).1
  have h2 : T.drop i = 10 :: T.drop (i + 1) := by
    rw [List.drop_eq_getElem_cons hi, (List.getElem?_eq_some_iff.1 hc).2]
  rw [h2] at h1
  exact h1.symm
theorem cut_str (t : ByteArray) (f i : Nat) : t.extract f i = bs ((t.data.toList.drop f).take (i - f)) := by
  apply ByteArray.ext
  apply Array.ext'
  simp [bs, ByteArray.data_extract, List.extract_eq_take_drop]
/-- What counts of the lines put in ahead of the line j by the first k places. -/
def mvk (p : Nat → Int) (n : Int) (j k : Nat) : Nat := if ((j : Nat) : Int) ≤ n then insN p j k else 0
theorem mvk_le (p : Nat → Int) (n : Int) (j k : Nat) : mvk p n j k ≤ k := by unfold mvk; have := insN_le p j k; split <;> omega
theorem mv_succ (p : Nat → Int) (M : Nat) (n : Int) (c : Nat) : mv p M n (c + 1) = mv p M n c + mvk p n (c + 1) M := rfl
set_option maxHeartbeats 4000000 in
set_option maxRecDepth 20000 in
theorem loose_walk (t : ByteArray) (pa : Option Addr) (M cap : Nat) (p : Nat → Int) (w : World) (V : Vars w) (ht : t.size ≤ 9223372036854775807) (hM : M ≤ 9223372036854775807) (hP : PAt w pa M p) :
    Calls Tryz.prog 8 #[.string t, .slice pa M cap] w fun e w' => e = .returned (.bool true) ∧ Below w.heap.size w w' := by
  have HV : Hid (Vars w) := V
  have HPa : Hid (PAt w pa M p) := hP
  clear V hP
  by_cases h1 : 65536 < t.size
  · have hd1 : decide ((65536 : Int) < (t.size : Int)) = true := by simp; omega
    have hd2 : decide (65536 < t.size) = true := by simp; omega
    go_enter Tryz.func8, Tryz.ntmps8
    go_wp2_with (go_at_call 11; refine (shown6 _ HV.out).mono ?_; rintro e w1 ⟨rfl, hb1⟩)
    go_ret
    exact ⟨rfl, hb1⟩
  · have hd1 : decide ((65536 : Int) < (t.size : Int)) = false := by simp; omega
    have hd2 : decide (65536 < t.size) = false := by simp; omega
    by_cases h2 : 1000 < M
    · have hd3 : decide ((1000 : Int) < (M : Int)) = true := by simp; omega
      have hd4 : decide (1000 < M) = true := by simp; omega
      go_enter Tryz.func8, Tryz.ntmps8
      go_wp2_with (go_at_call 11; refine (shown6 _ HV.out).mono ?_; rintro e w1 ⟨rfl, hb1⟩)
      go_ret
      exact ⟨rfl, hb1⟩
    · have hd3 : decide ((1000 : Int) < (M : Int)) = false := by simp; omega
      have hd4 : decide (1000 < M) = false := by simp; omega
      have P1 : Hid (∀ X, Vars X → Calls Tryz.prog 14 #[.string t] X _) := fun X hX => parse_any t X hX
      obtain ⟨T, hT⟩ : ∃ T, T = t.data.toList := ⟨_, rfl⟩
      have hTl : T.length = t.size := by rw [hT, Array.length_toList]; rfl
      have hTa : T.length ≤ t.size := by omega
      have hTb : t.size ≤ T.length := by omega
      clear hTl
      rw [← hT] at P1
      generalize hL : parseW T = L at P1
      generalize hn : parseN T = n at P1
      generalize he : parseE T = e0 at P1
      have HQ : Hid (parseW T = L ∧ parseN T = n ∧ parseE T = e0 ∧ T = t.data.toList) := ⟨hL, hn, he, hT⟩
      clear hL hn he hT
      obtain ⟨i0, hi0, hz0, hz1, hz2⟩ := info_parts infoU8
      have e32 : (⟨#[32, 9]⟩ : ByteArray).size = 2 := rfl
      go_enter Tryz.func8, Tryz.ntmps8
      go_wp2_with (first
        | (go_at_call 11; refine (shown6 _ HV.out).mono ?_; rintro e w1 ⟨rfl, hb1⟩; have V1 : Hid (Vars w1) := HV.out.below hb1 HV.out.big)
        | (go_at_call 14; refine (P1.out _ V1.out).mono ?_; rintro e w2 ⟨v2, rfl, o2, hb2⟩; obtain ⟨a2, c2, rfl, A2⟩ := words_own o2; have O2 : Hid (WordsAt w2 a2 L) := A2; have V2 : Hid (Vars w2) := V1.out.below hb2 V1.out.big; clear A2 o2))
      have HB2 : Hid (Below w.heap.size w w2) := hb1.trans (hb2.mono hb1.size)
      have P2 : Hid (PAt w2 pa M p) := fun j hj => by
        obtain ⟨b, off, e, h3, h4⟩ := HPa.out j hj
        exact ⟨b, off, e, Nat.lt_of_lt_of_le h3 HB2.out.size, (HB2.out.cell (p := ⟨b, _, none⟩) h3).trans h4⟩
      obtain ⟨B, hB⟩ : ∃ B, B = w2.heap.size := ⟨_, rfl⟩
      have HBB : Hid (B = w2.heap.size) := hB
      clear hB hb1 hb2 HPa V1 P1
      go_loopg [6, 7, 8, 12, 13] (T.length + 2) (fun gf s6 s7 s8 s12 s13 wx => ∃ i : Nat, s13 = .int .i64 i ∧ T.length + 2 ≤ i + gf ∧ (StA p M T n B wx i s6 s7 s8 s12 ∨ StB p M T n B wx i s6 s8) ∧ Below B w2 wx)
      case atStart => exact ⟨0, rfl, by omega, .inl ⟨[], 0, rfl, rfl, rfl, ⟨rfl, .inl ⟨rfl, rfl⟩⟩, by omega, by omega, by simp, by simp, by simp, by simp, by simp [pre]⟩, Below.refl _ _⟩
      case round =>
        obtain ⟨i, rfl, hg, hst, hbel⟩ := hrel
        rcases hst with ⟨a, f, rfl, rfl, rfl, hown, hfi, hiT, hparts, hno, hcur, haf, hlen⟩ | ⟨rfl, a, z, rfl, hown, hparts, hno, haT, hlen⟩
        · obtain ⟨g', rfl⟩ : ∃ g', gk = g' + 1 := ⟨gk - 1, by omega⟩
          have hdi : decide ((i : Int) ≤ (t.size : Int)) = true := by simp; omega
          by_cases hnl : i < T.length ∧ T[i]? ≠ some 10
          · have hlt : i < t.size := by omega
            have hd5 : decide ((i : Int) < (t.size : Int)) = true := by simp; omega
            have hd6 : decide (i < t.size) = true := by simp; omega
            have hch : ((t[i]'hlt).toNat : Int) ≠ 10 := fun e => hnl.2 (by rw [HQ.out.2.2.2, str_at t i hlt, ch_int.1 e])
            have hchb : (((t[i]'hlt).toNat : Int) != 10) = true := by simpa using hch
            have HS : Hid (OwS wr B u6 (pre p M a 1) ∧ parts 10 T = a ++ parts 10 (T.drop f) ∧ (∀ l ∈ a, (10 : UInt8) ∉ l) ∧ (10 : UInt8) ∉ (T.drop f).take (i - f) ∧ T[i]? ≠ some 10) := ⟨hown, hparts, hno, hcur, hnl.2⟩
            clear hown hparts hno hcur hnl hch
            go_wp2
            go_roundg g'
            case measure => omega
            case rel => exact ⟨i + 1, by go_num, by omega, .inl ⟨a, f, rfl, rfl, rfl, HS.out.1, by omega, by omega, HS.out.2.1, HS.out.2.2.1, cur_next hfi HS.out.2.2.2.1 HS.out.2.2.2.2, haf, hlen⟩, hbel⟩
          · have hmv : mv p M n a.length ≤ 65536000 := Nat.le_trans (mv_le p M n a.length) (by have h9 : a.length * M ≤ 65536 * 1000 := Nat.mul_le_mul (by omega) (by omega); omega)
            have HS : Hid (OwS wr B u6 (pre p M a 1) ∧ parts 10 T = a ++ parts 10 (T.drop f) ∧ (∀ l ∈ a, (10 : UInt8) ∉ l) ∧ (10 : UInt8) ∉ (T.drop f).take (i - f)) := ⟨hown, hparts, hno, hcur⟩
            clear hown hparts hno hcur
            by_cases hend : i = T.length
            · have hd5 : decide ((i : Int) < (t.size : Int)) = false := by simp; omega
              have hd6 : decide (i < t.size) = false := by simp; omega
              have hea : T.length ≤ i := by omega
              have HEnd : Hid (i = T.length) := hend
              clear hend hnl
              obtain ⟨wo, rfl⟩ : ∃ wo, wo = wr := ⟨_, rfl⟩
              obtain ⟨j, hj⟩ : ∃ j, j = a.length + 1 := ⟨_, rfl⟩
              obtain ⟨m0, hm0⟩ : ∃ m0, m0 = mv p M n a.length := ⟨_, rfl⟩
              obtain ⟨O0, hO0⟩ : ∃ O0, O0 = pre p M a 1 := ⟨_, rfl⟩
              rw [← hO0] at HS hlen
              rw [← hm0] at hmv
              have HJ : Hid (j = a.length + 1 ∧ m0 = mv p M n a.length ∧ O0 = pre p M a 1) := ⟨hj, hm0, hO0⟩
              rw [← hj, ← hm0]
              have hjb : j ≤ 65537 := by omega
              clear hj hm0 hO0
              go_wp2
              go_loopw [6, 8, 14] (fun s6 s8 s14 wx => ∃ k : Nat, k ≤ M ∧ s14 = .int .i64 k ∧ s8 = .int .i64 ((m0 + mvk p n j k : Nat) : Int) ∧ OwS wx B s6 (O0 ++ insB p j k) ∧ Below B w2 wx) (fun _ _ x _ => M - (intOf x).toNat)
              case atStart => exact ⟨0, by omega, rfl, by simp [mvk, insN], by simpa [insB] using HS.out.1, hbel⟩
              case round =>
                obtain ⟨k, hkM, rfl, rfl, hownk, hbelk⟩ := hrel
                have hsz := hbelk.size
                have hmk := mvk_le p n j k
                have hbl := insB_len p j k
                by_cases hk : k < M
                · have hdk : decide ((k : Int) < (M : Int)) = true := by simp; omega
                  obtain ⟨b, off, rfl, hb, hc⟩ := P2.out k hk
                  have hc1 : wr.cell? ⟨b, off + k, none⟩ = some (.int .i64 (p k)) := (hbelk.cell (p := ⟨b, _, none⟩) (by rw [HBB.out]; exact hb)).trans hc
                  by_cases hpk : p k = (j : Int)
                  · have hpb : (p k == (j : Int)) = true := by simpa using hpk
                    have hol : (O0 ++ insB p j k).length ≤ 5000 * f + 4000 := by rw [List.length_append]; omega
                    have hr3 : k % 3 = 0 ∨ k % 3 = 1 ∨ k % 3 = 2 := by omega
                    rcases hr3 with hr | hr | hr
                    · have hix : Hid (∀ X, _) := ix0
                      have hm1 : (k : Int).tmod 3 = 0 := by rw [Int.tmod_eq_emod_of_nonneg (by omega)]; omega
                      have hm2 : (k : Int) % 3 = 0 := by omega
                      have hm4 : k % 3 = 0 := by omega
                      have e1 : insB p j (k + 1) = insB p j k ++ [59, 32, 120, 10] := by simp [insB, hpk, insL, hm4]
                      have HK : Hid (insB p j (k + 1) = insB p j k ++ [59, 32, 120, 10]) := e1
                      clear e1 hm4
                      by_cases hnj : (j : Int) ≤ n
                      · have hnb : decide ((j : Int) ≤ n) = true := by simpa using hnj
                        have e2 : mvk p n j (k + 1) = mvk p n j k + 1 := by simp [mvk, hnj, insN, hpk]
                        have HE : Hid (mvk p n j (k + 1) = mvk p n j k + 1) := e2
                        clear e2 hc hpk hnj
                        generalize p k = pk at hc1 hpb
                        go_wp2_with (first | (refine wpList_index_eq rfl _ _ 39 rfl _ _ _ rfl rfl (hix.out _) ?_; go_loud (refine Lib.wpList_append_own_string _ rfl _ _ 38 9 rfl B 5 i0 Tryz.underlying38 Tryz.underlying9 hi0 hz0 hz1 hz2 _ _ _ rfl hownk ⟨#[59, 32, 120, 10]⟩ rfl (by unfold maxLen; simp [ByteArray.size]; omega) (by simp [ByteArray.size]; omega) (by rw [HBB.out]; exact hsz) ?_); intro v3 w3 hown3 hgrow3 hn3) | fail)
                        go_roundw
                        case rel => first | exact ⟨_, _, _, ⟨k + 1, by omega, by go_num, v8 HE.out, by rw [HK.out, ← List.append_assoc]; exact ows_app hown3 rfl, hbelk.grown hgrow3 (by rw [HBB.out]; exact hsz) (fun g hg => (World.ownsRow.lt hownk g hg).1)⟩, rfl, rfl, rfl⟩ | exact ⟨k + 1, by omega, by go_num, by rw [HE.out, ← Nat.add_assoc]; go_num, by rw [HK.out, ← List.append_assoc]; exact ows_app hown3 rfl, hbelk.grown hgrow3 (by rw [HBB.out]; exact hsz) (fun g hg => (World.ownsRow.lt hownk g hg).1)⟩
                        case measure => simp [intOf]; omega
                      · have hnb : decide ((j : Int) ≤ n) = false := by simpa using hnj
                        have e2 : mvk p n j (k + 1) = mvk p n j k := by simp [mvk, hnj]
                        have HE : Hid (mvk p n j (k + 1) = mvk p n j k) := e2
                        clear e2 hc hpk hnj
                        generalize p k = pk at hc1 hpb
                        go_wp2_with (first | (refine wpList_index_eq rfl _ _ 39 rfl _ _ _ rfl rfl (hix.out _) ?_; go_loud (refine Lib.wpList_append_own_string _ rfl _ _ 38 9 rfl B 5 i0 Tryz.underlying38 Tryz.underlying9 hi0 hz0 hz1 hz2 _ _ _ rfl hownk ⟨#[59, 32, 120, 10]⟩ rfl (by unfold maxLen; simp [ByteArray.size]; omega) (by simp [ByteArray.size]; omega) (by rw [HBB.out]; exact hsz) ?_); intro v3 w3 hown3 hgrow3 hn3) | fail)
                        go_roundw
                        case rel => first | exact ⟨_, _, _, ⟨k + 1, by omega, by go_num, by rw [HE.out], by rw [HK.out, ← List.append_assoc]; exact ows_app hown3 rfl, hbelk.grown hgrow3 (by rw [HBB.out]; exact hsz) (fun g hg => (World.ownsRow.lt hownk g hg).1)⟩, rfl, rfl, rfl⟩ | exact ⟨k + 1, by omega, by go_num, by rw [HE.out], by rw [HK.out, ← List.append_assoc]; exact ows_app hown3 rfl, hbelk.grown hgrow3 (by rw [HBB.out]; exact hsz) (fun g hg => (World.ownsRow.lt hownk g hg).1)⟩
                        case measure => simp [intOf]; omega
                    · have hix : Hid (∀ X, _) := ix1
                      have hm1 : (k : Int).tmod 3 = 1 := by rw [Int.tmod_eq_emod_of_nonneg (by omega)]; omega
                      have hm2 : (k : Int) % 3 = 1 := by omega
                      have hm4 : k % 3 = 1 := by omega
                      have e1 : insB p j (k + 1) = insB p j k ++ [32, 9, 10] := by simp [insB, hpk, insL, hm4]
                      have HK : Hid (insB p j (k + 1) = insB p j k ++ [32, 9, 10]) := e1
                      clear e1 hm4
                      by_cases hnj : (j : Int) ≤ n
                      · have hnb : decide ((j : Int) ≤ n) = true := by simpa using hnj
                        have e2 : mvk p n j (k + 1) = mvk p n j k + 1 := by simp [mvk, hnj, insN, hpk]
                        have HE : Hid (mvk p n j (k + 1) = mvk p n j k + 1) := e2
                        clear e2 hc hpk hnj
                        generalize p k = pk at hc1 hpb
                        go_wp2_with (first | (refine wpList_index_eq rfl _ _ 39 rfl _ _ _ rfl rfl (hix.out _) ?_; go_loud (refine Lib.wpList_append_own_string _ rfl _ _ 38 9 rfl B 5 i0 Tryz.underlying38 Tryz.underlying9 hi0 hz0 hz1 hz2 _ _ _ rfl hownk ⟨#[32, 9, 10]⟩ rfl (by unfold maxLen; simp [ByteArray.size]; omega) (by simp [ByteArray.size]; omega) (by rw [HBB.out]; exact hsz) ?_); intro v3 w3 hown3 hgrow3 hn3) | fail)
                        go_roundw
                        case rel => first | exact ⟨_, _, _, ⟨k + 1, by omega, by go_num, v8 HE.out, by rw [HK.out, ← List.append_assoc]; exact ows_app hown3 rfl, hbelk.grown hgrow3 (by rw [HBB.out]; exact hsz) (fun g hg => (World.ownsRow.lt hownk g hg).1)⟩, rfl, rfl, rfl⟩ | exact ⟨k + 1, by omega, by go_num, by rw [HE.out, ← Nat.add_assoc]; go_num, by rw [HK.out, ← List.append_assoc]; exact ows_app hown3 rfl, hbelk.grown hgrow3 (by rw [HBB.out]; exact hsz) (fun g hg => (World.ownsRow.lt hownk g hg).1)⟩
                        case measure => simp [intOf]; omega
                      · have hnb : decide ((j : Int) ≤ n) = false := by simpa using hnj
                        have e2 : mvk p n j (k + 1) = mvk p n j k := by simp [mvk, hnj]
                        have HE : Hid (mvk p n j (k + 1) = mvk p n j k) := e2
                        clear e2 hc hpk hnj
                        generalize p k = pk at hc1 hpb
                        go_wp2_with (first | (refine wpList_index_eq rfl _ _ 39 rfl _ _ _ rfl rfl (hix.out _) ?_; go_loud (refine Lib.wpList_append_own_string _ rfl _ _ 38 9 rfl B 5 i0 Tryz.underlying38 Tryz.underlying9 hi0 hz0 hz1 hz2 _ _ _ rfl hownk ⟨#[32, 9, 10]⟩ rfl (by unfold maxLen; simp [ByteArray.size]; omega) (by simp [ByteArray.size]; omega) (by rw [HBB.out]; exact hsz) ?_); intro v3 w3 hown3 hgrow3 hn3) | fail)
                        go_roundw
                        case rel => first | exact ⟨_, _, _, ⟨k + 1, by omega, by go_num, by rw [HE.out], by rw [HK.out, ← List.append_assoc]; exact ows_app hown3 rfl, hbelk.grown hgrow3 (by rw [HBB.out]; exact hsz) (fun g hg => (World.ownsRow.lt hownk g hg).1)⟩, rfl, rfl, rfl⟩ | exact ⟨k + 1, by omega, by go_num, by rw [HE.out], by rw [HK.out, ← List.append_assoc]; exact ows_app hown3 rfl, hbelk.grown hgrow3 (by rw [HBB.out]; exact hsz) (fun g hg => (World.ownsRow.lt hownk g hg).1)⟩
                        case measure => simp [intOf]; omega
                    · have hix : Hid (∀ X, _) := ix2
                      have hm1 : (k : Int).tmod 3 = 2 := by rw [Int.tmod_eq_emod_of_nonneg (by omega)]; omega
                      have hm2 : (k : Int) % 3 = 2 := by omega
                      have hm4 : k % 3 = 2 := by omega
                      have e1 : insB p j (k + 1) = insB p j k ++ [13, 10] := by simp [insB, hpk, insL, hm4]
                      have HK : Hid (insB p j (k + 1) = insB p j k ++ [13, 10]) := e1
                      clear e1 hm4
                      by_cases hnj : (j : Int) ≤ n
                      · have hnb : decide ((j : Int) ≤ n) = true := by simpa using hnj
                        have e2 : mvk p n j (k + 1) = mvk p n j k + 1 := by simp [mvk, hnj, insN, hpk]
                        have HE : Hid (mvk p n j (k + 1) = mvk p n j k + 1) := e2
                        clear e2 hc hpk hnj
                        generalize p k = pk at hc1 hpb
                        go_wp2_with (first | (refine wpList_index_eq rfl _ _ 39 rfl _ _ _ rfl rfl (hix.out _) ?_; go_loud (refine Lib.wpList_append_own_string _ rfl _ _ 38 9 rfl B 5 i0 Tryz.underlying38 Tryz.underlying9 hi0 hz0 hz1 hz2 _ _ _ rfl hownk ⟨#[13, 10]⟩ rfl (by unfold maxLen; simp [ByteArray.size]; omega) (by simp [ByteArray.size]; omega) (by rw [HBB.out]; exact hsz) ?_); intro v3 w3 hown3 hgrow3 hn3) | fail)
                        go_roundw
                        case rel => first | exact ⟨_, _, _, ⟨k + 1, by omega, by go_num, v8 HE.out, by rw [HK.out, ← List.append_assoc]; exact ows_app hown3 rfl, hbelk.grown hgrow3 (by rw [HBB.out]; exact hsz) (fun g hg => (World.ownsRow.lt hownk g hg).1)⟩, rfl, rfl, rfl⟩ | exact ⟨k + 1, by omega, by go_num, by rw [HE.out, ← Nat.add_assoc]; go_num, by rw [HK.out, ← List.append_assoc]; exact ows_app hown3 rfl, hbelk.grown hgrow3 (by rw [HBB.out]; exact hsz) (fun g hg => (World.ownsRow.lt hownk g hg).1)⟩
                        case measure => simp [intOf]; omega
                      · have hnb : decide ((j : Int) ≤ n) = false := by simpa using hnj
                        have e2 : mvk p n j (k + 1) = mvk p n j k := by simp [mvk, hnj]
                        have HE : Hid (mvk p n j (k + 1) = mvk p n j k) := e2
                        clear e2 hc hpk hnj
                        generalize p k = pk at hc1 hpb
                        go_wp2_with (first | (refine wpList_index_eq rfl _ _ 39 rfl _ _ _ rfl rfl (hix.out _) ?_; go_loud (refine Lib.wpList_append_own_string _ rfl _ _ 38 9 rfl B 5 i0 Tryz.underlying38 Tryz.underlying9 hi0 hz0 hz1 hz2 _ _ _ rfl hownk ⟨#[13, 10]⟩ rfl (by unfold maxLen; simp [ByteArray.size]; omega) (by simp [ByteArray.size]; omega) (by rw [HBB.out]; exact hsz) ?_); intro v3 w3 hown3 hgrow3 hn3) | fail)
                        go_roundw
                        case rel => first | exact ⟨_, _, _, ⟨k + 1, by omega, by go_num, by rw [HE.out], by rw [HK.out, ← List.append_assoc]; exact ows_app hown3 rfl, hbelk.grown hgrow3 (by rw [HBB.out]; exact hsz) (fun g hg => (World.ownsRow.lt hownk g hg).1)⟩, rfl, rfl, rfl⟩ | exact ⟨k + 1, by omega, by go_num, by rw [HE.out], by rw [HK.out, ← List.append_assoc]; exact ows_app hown3 rfl, hbelk.grown hgrow3 (by rw [HBB.out]; exact hsz) (fun g hg => (World.ownsRow.lt hownk g hg).1)⟩
                        case measure => simp [intOf]; omega
                  · have hpb : (p k == (j : Int)) = false := by simpa using hpk
                    have e1 : insB p j (k + 1) = insB p j k := by simp [insB, hpk]
                    have e2 : mvk p n j (k + 1) = mvk p n j k := by simp [mvk, insN, hpk]
                    have HK : Hid (OwS wr B u6 (O0 ++ insB p j (k + 1)) ∧ mvk p n j (k + 1) = mvk p n j k) := ⟨by rw [e1]; exact hownk, e2⟩
                    clear hownk e1 e2 hc hpk
                    generalize p k = pk at hc1 hpb
                    go_wp2
                    go_roundw
                    case rel => exact ⟨k + 1, by omega, by go_num, by rw [HK.out.2], HK.out.1, hbelk⟩
                    case measure => simp [intOf]; omega
                · obtain rfl : k = M := by omega
                  have hdk : decide ((k : Int) < (k : Int)) = false := by simp
                  have hlz : ((T.drop f).take (i - f)).length ≤ i - f := by rw [List.length_take]; omega
                  have hcut : t.extract f i = bs ((T.drop f).take (i - f)) := by rw [HQ.out.2.2.2]; exact cut_str t f i
                  obtain ⟨z, hz⟩ : ∃ z, z = (T.drop f).take (i - f) := ⟨_, rfl⟩
                  rw [← hz] at HS hlz hcut
                  have HZ : Hid (z = (T.drop f).take (i - f)) := hz
                  clear hz
                  have hzs : (bs z).size = z.length := bs_size z
                  have hos : (O0 ++ insB p j k ++ [32, 9]).length = O0.length + (insB p j k).length + 2 := by simp; omega
                  have hos2 : (O0 ++ insB p j k).length = O0.length + (insB p j k).length := List.length_append
                  go_wp2_with (first
                    | (at_builtin; have hx := ho4; clear hx; go_loud (refine Lib.wpList_append_own_string _ rfl _ _ 38 9 rfl B 5 i0 Tryz.underlying38 Tryz.underlying9 hi0 hz0 hz1 hz2 _ _ _ rfl ho4 (bs z) (by first | rfl | (rw [← hcut]; rfl)) (by rw [hzs]; unfold maxLen; omega) (by rw [hzs]; omega) (by rw [HBB.out]; exact Nat.le_trans hsz hgrow4.size) ?_); intro v5 w5 hown5 hgrow5 hn5; have ho5 : OwS w5 B v5 (O0 ++ insB p j k ++ [32, 9] ++ z) := ows_app hown5 hzs; clear hown5)
                    | (at_builtin; go_loud (refine Lib.wpList_append_own_string _ rfl _ _ 38 9 rfl B 5 i0 Tryz.underlying38 Tryz.underlying9 hi0 hz0 hz1 hz2 _ _ _ rfl hownk ⟨#[32, 9]⟩ rfl (by unfold maxLen; rw [e32]; omega) (by rw [e32]; omega) (by rw [HBB.out]; exact hsz) ?_); intro v4 w4 hown4 hgrow4 hn4; have ho4 : OwS w4 B v4 (O0 ++ insB p j k ++ [32, 9]) := ows_app hown4 rfl; clear hown4))
                  have q4 : Below B w2 w4 := hbelk.grown hgrow4 (by rw [HBB.out]; exact hsz) (fun g hg => (World.ownsRow.lt hownk g hg).1)
                  have q5 : Below B w2 w5 := q4.grown hgrow5 (by rw [HBB.out]; exact q4.size) (fun g hg => (World.ownsRow.lt ho4 g hg).1)
                  obtain ⟨hj1, hm1, hO1⟩ := HJ.out
                  have hzz : z = T.drop f := by rw [HZ.out]; exact List.take_of_length_le (by rw [List.length_drop]; omega)
                  have ho6 : OwS w5 B v5 (pre p k a 1 ++ insB p (1 + a.length) k ++ [32, 9] ++ z) := by rw [← hO1, Nat.add_comm 1, ← hj1]; exact ho5
                  have hl6 : (pre p k a 1 ++ insB p (1 + a.length) k ++ [32, 9] ++ z).length ≤ 5000 * (T.length + 1) := by rw [← hO1, Nat.add_comm 1, ← hj1, List.length_append, hos]; omega
                  have hpz : parts 10 T = a ++ [z] := by rw [HS.out.2.1, ← hzz, parts_free HS.out.2.2.2]
                  have hnz : ∀ l ∈ a ++ [z], (10 : UInt8) ∉ l := fun l hl => by
                    rcases List.mem_append.1 hl with h9 | h9
                    · exact HS.out.2.2.1 l h9
                    · simp at h9; rw [h9]; exact HS.out.2.2.2
                  have h8 : Value.int .i64 ((m0 : Int) + (mvk p n j k : Int)) = .int .i64 ((mv p k n (a.length + 1) : Nat) : Int) := by rw [mv_succ, ← hj1, ← hm1]; simp
                  go_roundg g'
                  case measure => omega
                  case rel => exact ⟨i + 1, by go_num, by omega, .inr ⟨by omega, a, z, h8, ho6, hpz, hnz, by omega, hl6⟩, q5⟩
            · have hlt : i < t.size := by omega
              have hd5 : decide ((i : Int) < (t.size : Int)) = true := by simp; omega
              have hd6 : decide (i < t.size) = true := by simp; omega
              have hnl2 : T[i]? = some 10 := by
                by_cases hq : T[i]? = some 10
                · exact hq
                · exact absurd ⟨by omega, hq⟩ hnl
              have HNl : Hid (T[i]? = some 10) := hnl2
              have hchb : (((t[i]'hlt).toNat : Int) != 10) = false := by
                have h9 := str_at t i hlt
                rw [← HQ.out.2.2.2, hnl2] at h9
                injection h9 with h9
                rw [← h9]; rfl
              have hni : i + 1 ≤ T.length := by omega
              clear hend hnl hnl2
              obtain ⟨wo, rfl⟩ : ∃ wo, wo = wr := ⟨_, rfl⟩
              obtain ⟨j, hj⟩ : ∃ j, j = a.length + 1 := ⟨_, rfl⟩
              obtain ⟨m0, hm0⟩ : ∃ m0, m0 = mv p M n a.length := ⟨_, rfl⟩
              obtain ⟨O0, hO0⟩ : ∃ O0, O0 = pre p M a 1 := ⟨_, rfl⟩
              rw [← hO0] at HS hlen
              rw [← hm0] at hmv
              have HJ : Hid (j = a.length + 1 ∧ m0 = mv p M n a.length ∧ O0 = pre p M a 1) := ⟨hj, hm0, hO0⟩
              rw [← hj, ← hm0]
              have hjb : j ≤ 65537 := by omega
              clear hj hm0 hO0
              go_wp2
              go_loopw [6, 8, 14] (fun s6 s8 s14 wx => ∃ k : Nat, k ≤ M ∧ s14 = .int .i64 k ∧ s8 = .int .i64 ((m0 + mvk p n j k : Nat) : Int) ∧ OwS wx B s6 (O0 ++ insB p j k) ∧ Below B w2 wx) (fun _ _ x _ => M - (intOf x).toNat)
              case atStart => exact ⟨0, by omega, rfl, by simp [mvk, insN], by simpa [insB] using HS.out.1, hbel⟩
              case round =>
                obtain ⟨k, hkM, rfl, rfl, hownk, hbelk⟩ := hrel
                have hsz := hbelk.size
                have hmk := mvk_le p n j k
                have hbl := insB_len p j k
                by_cases hk : k < M
                · have hdk : decide ((k : Int) < (M : Int)) = true := by simp; omega
                  obtain ⟨b, off, rfl, hb, hc⟩ := P2.out k hk
                  have hc1 : wr.cell? ⟨b, off + k, none⟩ = some (.int .i64 (p k)) := (hbelk.cell (p := ⟨b, _, none⟩) (by rw [HBB.out]; exact hb)).trans hc
                  by_cases hpk : p k = (j : Int)
                  · have hpb : (p k == (j : Int)) = true := by simpa using hpk
                    have hol : (O0 ++ insB p j k).length ≤ 5000 * f + 4000 := by rw [List.length_append]; omega
                    have hr3 : k % 3 = 0 ∨ k % 3 = 1 ∨ k % 3 = 2 := by omega
                    rcases hr3 with hr | hr | hr
                    · have hix : Hid (∀ X, _) := ix0
                      have hm1 : (k : Int).tmod 3 = 0 := by rw [Int.tmod_eq_emod_of_nonneg (by omega)]; omega
                      have hm2 : (k : Int) % 3 = 0 := by omega
                      have hm4 : k % 3 = 0 := by omega
                      have e1 : insB p j (k + 1) = insB p j k ++ [59, 32, 120, 10] := by simp [insB, hpk, insL, hm4]
                      have HK : Hid (insB p j (k + 1) = insB p j k ++ [59, 32, 120, 10]) := e1
                      clear e1 hm4
                      by_cases hnj : (j : Int) ≤ n
                      · have hnb : decide ((j : Int) ≤ n) = true := by simpa using hnj
                        have e2 : mvk p n j (k + 1) = mvk p n j k + 1 := by simp [mvk, hnj, insN, hpk]
                        have HE : Hid (mvk p n j (k + 1) = mvk p n j k + 1) := e2
                        clear e2 hc hpk hnj
                        generalize p k = pk at hc1 hpb
                        go_wp2_with (first | (refine wpList_index_eq rfl _ _ 39 rfl _ _ _ rfl rfl (hix.out _) ?_; go_loud (refine Lib.wpList_append_own_string _ rfl _ _ 38 9 rfl B 5 i0 Tryz.underlying38 Tryz.underlying9 hi0 hz0 hz1 hz2 _ _ _ rfl hownk ⟨#[59, 32, 120, 10]⟩ rfl (by unfold maxLen; simp [ByteArray.size]; omega) (by simp [ByteArray.size]; omega) (by rw [HBB.out]; exact hsz) ?_); intro v3 w3 hown3 hgrow3 hn3) | fail)
                        go_roundw
                        case rel => first | exact ⟨_, _, _, ⟨k + 1, by omega, by go_num, v8 HE.out, by rw [HK.out, ← List.append_assoc]; exact ows_app hown3 rfl, hbelk.grown hgrow3 (by rw [HBB.out]; exact hsz) (fun g hg => (World.ownsRow.lt hownk g hg).1)⟩, rfl, rfl, rfl⟩ | exact ⟨k + 1, by omega, by go_num, by rw [HE.out, ← Nat.add_assoc]; go_num, by rw [HK.out, ← List.append_assoc]; exact ows_app hown3 rfl, hbelk.grown hgrow3 (by rw [HBB.out]; exact hsz) (fun g hg => (World.ownsRow.lt hownk g hg).1)⟩
                        case measure => simp [intOf]; omega
                      · have hnb : decide ((j : Int) ≤ n) = false := by simpa using hnj
                        have e2 : mvk p n j (k + 1) = mvk p n j k := by simp [mvk, hnj]
                        have HE : Hid (mvk p n j (k + 1) = mvk p n j k) := e2
                        clear e2 hc hpk hnj
                        generalize p k = pk at hc1 hpb
                        go_wp2_with (first | (refine wpList_index_eq rfl _ _ 39 rfl _ _ _ rfl rfl (hix.out _) ?_; go_loud (refine Lib.wpList_append_own_string _ rfl _ _ 38 9 rfl B 5 i0 Tryz.underlying38 Tryz.underlying9 hi0 hz0 hz1 hz2 _ _ _ rfl hownk ⟨#[59, 32, 120, 10]⟩ rfl (by unfold maxLen; simp [ByteArray.size]; omega) (by simp [ByteArray.size]; omega) (by rw [HBB.out]; exact hsz) ?_); intro v3 w3 hown3 hgrow3 hn3) | fail)
                        go_roundw
                        case rel => first | exact ⟨_, _, _, ⟨k + 1, by omega, by go_num, by rw [HE.out], by rw [HK.out, ← List.append_assoc]; exact ows_app hown3 rfl, hbelk.grown hgrow3 (by rw [HBB.out]; exact hsz) (fun g hg => (World.ownsRow.lt hownk g hg).1)⟩, rfl, rfl, rfl⟩ | exact ⟨k + 1, by omega, by go_num, by rw [HE.out], by rw [HK.out, ← List.append_assoc]; exact ows_app hown3 rfl, hbelk.grown hgrow3 (by rw [HBB.out]; exact hsz) (fun g hg => (World.ownsRow.lt hownk g hg).1)⟩
                        case measure => simp [intOf]; omega
                    · have hix : Hid (∀ X, _) := ix1
                      have hm1 : (k : Int).tmod 3 = 1 := by rw [Int.tmod_eq_emod_of_nonneg (by omega)]; omega
                      have hm2 : (k : Int) % 3 = 1 := by omega
                      have hm4 : k % 3 = 1 := by omega
                      have e1 : insB p j (k + 1) = insB p j k ++ [32, 9, 10] := by simp [insB, hpk, insL, hm4]
                      have HK : Hid (insB p j (k + 1) = insB p j k ++ [32, 9, 10]) := e1
                      clear e1 hm4
                      by_cases hnj : (j : Int) ≤ n
                      · have hnb : decide ((j : Int) ≤ n) = true := by simpa using hnj
                        have e2 : mvk p n j (k + 1) = mvk p n j k + 1 := by simp [mvk, hnj, insN, hpk]
                        have HE : Hid (mvk p n j (k + 1) = mvk p n j k + 1) := e2
                        clear e2 hc hpk hnj
                        generalize p k = pk at hc1 hpb
                        go_wp2_with (first | (refine wpList_index_eq rfl _ _ 39 rfl _ _ _ rfl rfl (hix.out _) ?_; go_loud (refine Lib.wpList_append_own_string _ rfl _ _ 38 9 rfl B 5 i0 Tryz.underlying38 Tryz.underlying9 hi0 hz0 hz1 hz2 _ _ _ rfl hownk ⟨#[32, 9, 10]⟩ rfl (by unfold maxLen; simp [ByteArray.size]; omega) (by simp [ByteArray.size]; omega) (by rw [HBB.out]; exact hsz) ?_); intro v3 w3 hown3 hgrow3 hn3) | fail)
                        go_roundw
                        case rel => first | exact ⟨_, _, _, ⟨k + 1, by omega, by go_num, v8 HE.out, by rw [HK.out, ← List.append_assoc]; exact ows_app hown3 rfl, hbelk.grown hgrow3 (by rw [HBB.out]; exact hsz) (fun g hg => (World.ownsRow.lt hownk g hg).1)⟩, rfl, rfl, rfl⟩ | exact ⟨k + 1, by omega, by go_num, by rw [HE.out, ← Nat.add_assoc]; go_num, by rw [HK.out, ← List.append_assoc]; exact ows_app hown3 rfl, hbelk.grown hgrow3 (by rw [HBB.out]; exact hsz) (fun g hg => (World.ownsRow.lt hownk g hg).1)⟩
                        case measure => simp [intOf]; omega
                      · have hnb : decide ((j : Int) ≤ n) = false := by simpa using hnj
                        have e2 : mvk p n j (k + 1) = mvk p n j k := by simp [mvk, hnj]
                        have HE : Hid (mvk p n j (k + 1) = mvk p n j k) := e2
                        clear e2 hc hpk hnj
                        generalize p k = pk at hc1 hpb
                        go_wp2_with (first | (refine wpList_index_eq rfl _ _ 39 rfl _ _ _ rfl rfl (hix.out _) ?_; go_loud (refine Lib.wpList_append_own_string _ rfl _ _ 38 9 rfl B 5 i0 Tryz.underlying38 Tryz.underlying9 hi0 hz0 hz1 hz2 _ _ _ rfl hownk ⟨#[32, 9, 10]⟩ rfl (by unfold maxLen; simp [ByteArray.size]; omega) (by simp [ByteArray.size]; omega) (by rw [HBB.out]; exact hsz) ?_); intro v3 w3 hown3 hgrow3 hn3) | fail)
                        go_roundw
                        case rel => first | exact ⟨_, _, _, ⟨k + 1, by omega, by go_num, by rw [HE.out], by rw [HK.out, ← List.append_assoc]; exact ows_app hown3 rfl, hbelk.grown hgrow3 (by rw [HBB.out]; exact hsz) (fun g hg => (World.ownsRow.lt hownk g hg).1)⟩, rfl, rfl, rfl⟩ | exact ⟨k + 1, by omega, by go_num, by rw [HE.out], by rw [HK.out, ← List.append_assoc]; exact ows_app hown3 rfl, hbelk.grown hgrow3 (by rw [HBB.out]; exact hsz) (fun g hg => (World.ownsRow.lt hownk g hg).1)⟩
                        case measure => simp [intOf]; omega
                    · have hix : Hid (∀ X, _) := ix2
                      have hm1 : (k : Int).tmod 3 = 2 := by rw [Int.tmod_eq_emod_of_nonneg (by omega)]; omega
                      have hm2 : (k : Int) % 3 = 2 := by omega
                      have hm4 : k % 3 = 2 := by omega
                      have e1 : insB p j (k + 1) = insB p j k ++ [13, 10] := by simp [insB, hpk, insL, hm4]
                      have HK : Hid (insB p j (k + 1) = insB p j k ++ [13, 10]) := e1
                      clear e1 hm4
                      by_cases hnj : (j : Int) ≤ n
                      · have hnb : decide ((j : Int) ≤ n) = true := by simpa using hnj
                        have e2 : mvk p n j (k + 1) = mvk p n j k + 1 := by simp [mvk, hnj, insN, hpk]
                        have HE : Hid (mvk p n j (k + 1) = mvk p n j k + 1) := e2
                        clear e2 hc hpk hnj
                        generalize p k = pk at hc1 hpb
                        go_wp2_with (first | (refine wpList_index_eq rfl _ _ 39 rfl _ _ _ rfl rfl (hix.out _) ?_; go_loud (refine Lib.wpList_append_own_string _ rfl _ _ 38 9 rfl B 5 i0 Tryz.underlying38 Tryz.underlying9 hi0 hz0 hz1 hz2 _ _ _ rfl hownk ⟨#[13, 10]⟩ rfl (by unfold maxLen; simp [ByteArray.size]; omega) (by simp [ByteArray.size]; omega) (by rw [HBB.out]; exact hsz) ?_); intro v3 w3 hown3 hgrow3 hn3) | fail)
                        go_roundw
                        case rel => first | exact ⟨_, _, _, ⟨k + 1, by omega, by go_num, v8 HE.out, by rw [HK.out, ← List.append_assoc]; exact ows_app hown3 rfl, hbelk.grown hgrow3 (by rw [HBB.out]; exact hsz) (fun g hg => (World.ownsRow.lt hownk g hg).1)⟩, rfl, rfl, rfl⟩ | exact ⟨k + 1, by omega, by go_num, by rw [HE.out, ← Nat.add_assoc]; go_num, by rw [HK.out, ← List.append_assoc]; exact ows_app hown3 rfl, hbelk.grown hgrow3 (by rw [HBB.out]; exact hsz) (fun g hg => (World.ownsRow.lt hownk g hg).1)⟩
                        case measure => simp [intOf]; omega
                      · have hnb : decide ((j : Int) ≤ n) = false := by simpa using hnj
                        have e2 : mvk p n j (k + 1) = mvk p n j k := by simp [mvk, hnj]
                        have HE : Hid (mvk p n j (k + 1) = mvk p n j k) := e2
                        clear e2 hc hpk hnj
                        generalize p k = pk at hc1 hpb
                        go_wp2_with (first | (refine wpList_index_eq rfl _ _ 39 rfl _ _ _ rfl rfl (hix.out _) ?_; go_loud (refine Lib.wpList_append_own_string _ rfl _ _ 38 9 rfl B 5 i0 Tryz.underlying38 Tryz.underlying9 hi0 hz0 hz1 hz2 _ _ _ rfl hownk ⟨#[13, 10]⟩ rfl (by unfold maxLen; simp [ByteArray.size]; omega) (by simp [ByteArray.size]; omega) (by rw [HBB.out]; exact hsz) ?_); intro v3 w3 hown3 hgrow3 hn3) | fail)
                        go_roundw
                        case rel => first | exact ⟨_, _, _, ⟨k + 1, by omega, by go_num, by rw [HE.out], by rw [HK.out, ← List.append_assoc]; exact ows_app hown3 rfl, hbelk.grown hgrow3 (by rw [HBB.out]; exact hsz) (fun g hg => (World.ownsRow.lt hownk g hg).1)⟩, rfl, rfl, rfl⟩ | exact ⟨k + 1, by omega, by go_num, by rw [HE.out], by rw [HK.out, ← List.append_assoc]; exact ows_app hown3 rfl, hbelk.grown hgrow3 (by rw [HBB.out]; exact hsz) (fun g hg => (World.ownsRow.lt hownk g hg).1)⟩
                        case measure => simp [intOf]; omega
                  · have hpb : (p k == (j : Int)) = false := by simpa using hpk
                    have e1 : insB p j (k + 1) = insB p j k := by simp [insB, hpk]
                    have e2 : mvk p n j (k + 1) = mvk p n j k := by simp [mvk, insN, hpk]
                    have HK : Hid (OwS wr B u6 (O0 ++ insB p j (k + 1)) ∧ mvk p n j (k + 1) = mvk p n j k) := ⟨by rw [e1]; exact hownk, e2⟩
                    clear hownk e1 e2 hc hpk
                    generalize p k = pk at hc1 hpb
                    go_wp2
                    go_roundw
                    case rel => exact ⟨k + 1, by omega, by go_num, by rw [HK.out.2], HK.out.1, hbelk⟩
                    case measure => simp [intOf]; omega
                · obtain rfl : k = M := by omega
                  have hdk : decide ((k : Int) < (k : Int)) = false := by simp
                  have hlz : ((T.drop f).take (i - f)).length ≤ i - f := by rw [List.length_take]; omega
                  have hcut : t.extract f i = bs ((T.drop f).take (i - f)) := by rw [HQ.out.2.2.2]; exact cut_str t f i
                  obtain ⟨z, hz⟩ : ∃ z, z = (T.drop f).take (i - f) := ⟨_, rfl⟩
                  rw [← hz] at HS hlz hcut
                  have HZ : Hid (z = (T.drop f).take (i - f)) := hz
                  clear hz
                  have hzs : (bs z).size = z.length := bs_size z
                  have hos : (O0 ++ insB p j k ++ [32, 9]).length = O0.length + (insB p j k).length + 2 := by simp; omega
                  have hos2 : (O0 ++ insB p j k).length = O0.length + (insB p j k).length := List.length_append
                  have hos3 : (O0 ++ insB p j k ++ [32, 9] ++ z).length = O0.length + (insB p j k).length + 2 + z.length := by simp; omega
                  go_wp2_with (first
                    | (at_builtin; have hx := ho5; clear hx; go_loud (refine wpList_append_own _ rfl _ _ 38 rfl B 5 i0 (.int .u8 0) 1 1 Tryz.underlying38 hi0 hz0 hz1 hz2 rfl (by decide) _ _ _ rfl (World.ownsRow.alloc ho5 _) ⟨w5.heap.size, 0, none⟩ 1 1 [.int .u8 10] rfl rfl (cell_new1 _ _ _) (by intro u hu; simp at hu; subst hu; rfl) (by unfold maxLen; omega) (by omega) (by rw [HBB.out]; have := hgrow4.size; have := hgrow5.size; simp; omega) ?_); intro v6 w6 hown6 hgrow6 hn6; have ho6 : OwS w6 B v6 (O0 ++ insB p j k ++ [32, 9] ++ z ++ [10]) := ows_app hown6 rfl; clear hown6)
                    | (at_builtin; have hx := ho4; clear hx; go_loud (refine Lib.wpList_append_own_string _ rfl _ _ 38 9 rfl B 5 i0 Tryz.underlying38 Tryz.underlying9 hi0 hz0 hz1 hz2 _ _ _ rfl ho4 (bs z) (by first | rfl | (rw [← hcut]; rfl)) (by rw [hzs]; unfold maxLen; omega) (by rw [hzs]; omega) (by rw [HBB.out]; exact Nat.le_trans hsz hgrow4.size) ?_); intro v5 w5 hown5 hgrow5 hn5; have ho5 : OwS w5 B v5 (O0 ++ insB p j k ++ [32, 9] ++ z) := ows_app hown5 hzs; clear hown5)
                    | (at_builtin; go_loud (refine Lib.wpList_append_own_string _ rfl _ _ 38 9 rfl B 5 i0 Tryz.underlying38 Tryz.underlying9 hi0 hz0 hz1 hz2 _ _ _ rfl hownk ⟨#[32, 9]⟩ rfl (by unfold maxLen; rw [e32]; omega) (by rw [e32]; omega) (by rw [HBB.out]; exact hsz) ?_); intro v4 w4 hown4 hgrow4 hn4; have ho4 : OwS w4 B v4 (O0 ++ insB p j k ++ [32, 9]) := ows_app hown4 rfl; clear hown4))
                  have q4 : Below B w2 w4 := hbelk.grown hgrow4 (by rw [HBB.out]; exact hsz) (fun g hg => (World.ownsRow.lt hownk g hg).1)
                  have q5 : Below B w2 w5 := q4.grown hgrow5 (by rw [HBB.out]; exact q4.size) (fun g hg => (World.ownsRow.lt ho4 g hg).1)
                  have q6 : Below B w2 w6 := (q5.alloc (by rw [HBB.out]; exact q5.size) _).grown hgrow6 (by rw [HBB.out]; have := q5.size; simp; omega) (fun g hg => (World.ownsRow.lt ho5 g hg).1)
                  obtain ⟨hj1, hm1, hO1⟩ := HJ.out
                  have epre : pre p k (a ++ [z]) 1 = O0 ++ insB p j k ++ [32, 9] ++ z ++ [10] := by rw [pre_snoc, ← hO1, Nat.add_comm 1, ← hj1]
                  have ho7 : OwS w6 B v6 (pre p k (a ++ [z]) 1) := by rw [epre]; exact ho6
                  have hl7 : (pre p k (a ++ [z]) 1).length ≤ 5000 * (i + 1) := by rw [epre, List.length_append, hos3]; simp; omega
                  have hdr := drop_nl hfi HNl.out
                  rw [← HZ.out] at hdr
                  have hpz : parts 10 T = (a ++ [z]) ++ parts 10 (T.drop (i + 1)) := by rw [HS.out.2.1, hdr, parts_app _ HS.out.2.2.2]; simp
                  have hnz : ∀ l ∈ a ++ [z], (10 : UInt8) ∉ l := fun l hl => by
                    rcases List.mem_append.1 hl with h9 | h9
                    · exact HS.out.2.2.1 l h9
                    · simp at h9; rw [h9]; exact HS.out.2.2.2
                  have hal : (a ++ [z]).length = a.length + 1 := by simp
                  have h7 : Value.int .i64 ((j : Int) + 1) = .int .i64 (((a ++ [z]).length + 1 : Nat) : Int) := by rw [hal, ← hj1]; simp
                  have h8 : Value.int .i64 ((m0 : Int) + (mvk p n j k : Int)) = .int .i64 ((mv p k n (a ++ [z]).length : Nat) : Int) := by rw [hal, mv_succ, ← hj1, ← hm1]; simp
                  go_roundg g'
                  case measure => omega
                  case rel => exact ⟨i + 1, by go_num, by omega, .inl ⟨a ++ [z], i + 1, h7, h8, by go_num, ho7, by omega, by omega, hpz, hnz, by simp, by rw [hal]; omega, hl7⟩, q6⟩
        · obtain ⟨g', rfl⟩ : ∃ g', gk = g' + 1 := ⟨gk - 1, by omega⟩
          have hdi : decide (((T.length + 1 : Nat) : Int) ≤ (t.size : Int)) = false := by simp; omega
          have hdi2 : decide ((T.length : Int) + 1 ≤ (t.size : Int)) = false := by simp; omega
          have hdi3 : decide (T.length + 1 ≤ t.size) = false := by simp; omega
          have hdi4 : decide (T.length < t.size) = false := by simp; omega
          obtain ⟨O, hO⟩ : ∃ O, O = pre p M a 1 ++ insB p (1 + a.length) M ++ [32, 9] ++ z := ⟨_, rfl⟩
          rw [← hO] at hown hlen
          have hbw : Below w2.heap.size w2 wr := by rw [← HBB.out]; exact hbel
          have HW : Hid (Below w.heap.size w wr) := HB2.out.trans (hbw.mono HB2.out.size)
          obtain ⟨sa, sc, rfl⟩ := own_slice hown
          have hcv := conv_own hown wr (fun _ _ => rfl)
          by_cases hbig : 65536 < O.length
          · have hdb : decide ((65536 : Int) < (O.length : Int)) = true := by simp; omega
            clear hown hparts hno hO
            go_wp2
            go_ret
            exact ⟨rfl, HW.out⟩
          · have hdb : decide ((65536 : Int) < (O.length : Int)) = false := by simp; omega
            obtain ⟨l1, l2, l3, l4⟩ := loose_back p M T a z hparts hno (by omega) O hO hbig
            obtain ⟨q1, q2, q3, _⟩ := HQ.out
            rw [q1] at l1
            rw [q3] at l2 l3 l4
            rw [q2] at l3 l4
            have P3 : Hid (∀ X, Vars X → Calls Tryz.prog 14 #[.string (bs O)] X _) := fun X hX => parse_any (bs O) X hX
            rw [bs_data, l1, l2, l3] at P3
            have hmvb : mv p M n (a.length + 1) ≤ 65537000 := Nat.le_trans (mv_le p M n (a.length + 1)) (by have h9 : (a.length + 1) * M ≤ 65537 * 1000 := Nat.mul_le_mul (by omega) (by omega); omega)
            have hnb := parse_line T
            rw [q2] at hnb
            have V3 : Hid (Vars wr) := V2.out.below hbw V2.out.big
            have O3 : Hid (WordsAt wr a2 L) := words_below O2.out hbw
            have hll : L.length ≤ 9223372036854775807 := by rw [← q1]; exact Nat.le_trans (parse_len T) (by omega)
            clear hown hparts hno hO l1 l2 q1 q2 q3
            generalize mv p M n (a.length + 1) = mm at l3 P3 hmvb
            by_cases h0 : e0 = 0
            · subst h0
              rw [if_pos rfl] at P3
              clear l3 l4
              go_wp2_with (first
                | (go_at_call 14; refine (P3.out _ V3.out).mono ?_; rintro e w7 ⟨v7, rfl, o7, hb7⟩; obtain ⟨a7, c7, rfl, A7⟩ := words_own o7; have O7 : Hid (WordsAt w7 a2 L ∧ WordsAt w7 a7 L) := ⟨words_below O3.out hb7, A7⟩; clear A7 o7)
                | (go_at_call 16; refine (same_any _ _ _ _ L _ O7.out.1 O7.out.2 hll).mono ?_; rintro e w8 ⟨rfl, hb8⟩))
              go_ret
              have B7 : Below w.heap.size w w7 := HW.out.trans (hb7.mono HW.out.size)
              exact ⟨rfl, B7.trans (hb8.mono B7.size)⟩
            · rw [if_neg h0] at P3
              have hk1 : (e0 == 0) = false := by simpa using h0
              have hk2 : (e0 != 0) = true := by simpa using h0
              clear l3 l4 h0
              go_wp2_with (first
                | (go_at_call 14; refine (P3.out _ V3.out).mono ?_; rintro e w7 ⟨v7, rfl, o7, hb7⟩; obtain ⟨a7, c7, rfl, A7⟩ := words_own o7; have O7 : Hid (WordsAt w7 a2 L ∧ WordsAt w7 a7 L) := ⟨words_below O3.out hb7, A7⟩; clear A7 o7)
                | (go_at_call 16; refine (same_any _ _ _ _ L _ O7.out.1 O7.out.2 hll).mono ?_; rintro e w8 ⟨rfl, hb8⟩))
              go_ret
              have B7 : Below w.heap.size w w7 := HW.out.trans (hb7.mono HW.out.size)
              exact ⟨by first | rfl | simp, B7.trans (hb8.mono B7.size)⟩
end Go.Proofs.YtkidfnhgknkpiaaGreatDoor
