/-
  Layer 6's Parse, the program's: it reads every text as the plain function says.
-/
import Derived.Test.YtmldlkcgaepaaaaGreatDoorMPp
import Derived.Test.YtmldlkcgaepaaaaGreatDoorMN3
namespace Go.Proofs.YtmldlkcgaepaaaaGreatDoor
set_option linter.unusedVariables false
set_option linter.unusedSimpArgs false
open Go.ChangeShapes Go.WideShapes Go.ChangeAt Go.RowKit
attribute [local go_sem ↓] loadIn_seal storeIn_seal
attribute [local go_sem] loadIn_run storeIn_run rowAt_at rowAt_old rowAt_drew rowAt_drewN roomCpu_new roomIn_new roomAt_old roomAt_drew roomAt_drewN putCpu_new putIn_new Cp.zero_fold In.fold putRow_past rowCpu_put rowIn_put size_put putRow_drew putRow_drewN alloc_drewN setCell_drewN Cp.at16 Cp.at17 Cp.at18 Cp.at19 Cp.at20 Cp.at21 Cp.size Cp.set16 Cp.set17 Cp.set18 Cp.set19 Cp.set20 Cp.set21 In.at0 In.at1 In.at2 In.at3 In.at4 In.at5 In.at6 In.at7 In.size In.set0 In.set1 In.set2 In.set3 In.ne Cp.ne In.set4 In.set5 In.set6 In.set7

theorem addr_any (n : Int) (w : World) : Calls Tryz.prog 12 #[.int .i64 n] w fun e w' => e = .returned (.int .u32 (4 * n % 4294967296)) ∧ w' = w := by
  go_enter Tryz.func12, Tryz.ntmps12
  go_wp2
  go_ret
  exact ⟨ret_int (by omega), rfl⟩
def ints (l : List Int) : List Value := l.map fun x => .int .u32 x
theorem ints_snoc (l : List Int) (x : Int) : ints (l ++ [x]) = ints l ++ [.int .u32 x] := by simp [ints]
theorem info23 : (Tryz.prog.info? 28).map (fun i => (i.zero, i.size, i.bytes)) = some (some (.int .u32 0), 1, 4) := by kernel_rfl
theorem Known.below {B : Nat} {w w' : World} {b0 b1 b2 b3 : Nat} (h : Known w b0 b1 b2 b3) (hb : Below B w w') (hB : w.heap.size ≤ B) : Known w' b0 b1 b2 b3 := h.call (hb.mono hB)
theorem goP_drop (L : List Bs) (k : Nat) (ws : List Int) (h : k < L.length) : goP (L.drop k) k ws = if saidP L[k] = [] then goP (L.drop (k + 1)) (k + 1) ws else match wordP (saidP L[k]) (4 * ws.length) with
    | none => .line (k + 1)
    | some x => goP (L.drop (k + 1)) (k + 1) (ws ++ [x]) := by
  rw [List.drop_eq_getElem_cons h]; rfl
theorem parse_long (t : ByteArray) (h : 65536 < t.size) (w : World) : Calls Tryz.prog 4 #[.string t] w fun e w' => e = .returned (.tuple #[.slice none 0 0, .int .i64 0, .int .i64 60]) ∧ w' = w := by
  have hd : decide ((65536 : Int) < t.size) = true := by simp; omega
  go_enter Tryz.func4, Tryz.ntmps4
  go_wp2
  go_ret3
  exact ⟨rfl, rfl⟩
def peW : Pe → List Int
  | .words l => l
  | .line _ => []
def peN : Pe → Int
  | .words _ => 0
  | .line n => n
def peE : Pe → Int
  | .words _ => 0
  | .line _ => 61
set_option maxRecDepth 20000 in
set_option maxHeartbeats 2000000 in
theorem parse_go (t : ByteArray) (h : t.size ≤ 65536) (w : World) (V : Vars w) : Calls Tryz.prog 4 #[.string t] w fun e w' => ∃ v, e = .returned (.tuple #[v, .int .i64 (peN (goP (parts 10 t.data.toList) 0 [])), .int .i64 (peE (goP (parts 10 t.data.toList) 0 []))]) ∧ w'.ownsRow w.heap.size 28 1 v (peW (goP (parts 10 t.data.toList) 0 [])).length (ints (peW (goP (parts 10 t.data.toList) 0 []))) ∧ Below w.heap.size w w' := by
  have hd : decide ((65536 : Int) < t.size) = false := by simp; omega
  have NA : Calls Tryz.prog 8 #[] w fun e w' => e = .returned (.agg #[.map (some (w.heap.size + 1)), .map (some (w.heap.size + 2)), .map (some (w.heap.size + 3)), .map (some (w.heap.size + 4))]) ∧ Known w' (w.heap.size + 1) (w.heap.size + 2) (w.heap.size + 3) (w.heap.size + 4) ∧ Below w.heap.size w w' := names_any w V
  have hts : t.data.toList.length = t.size := by simp only [ByteArray.size, Array.length_toList]
  obtain ⟨m, hm⟩ := V.max
  have sp := splitB_parts t
  have sl := Lib.splitB_all { data := #[10] } (by decide) 0 _ t rfl
  have SP := fun X hX => Tryz.strings_Split t { data := #[10] } m X (by omega) hX (by decide)
  obtain ⟨L, hL⟩ : ∃ L, L = parts 10 t.data.toList := ⟨_, rfl⟩
  rw [← hL] at sp ⊢
  have hlen : Lib.countB t { data := #[10] } + 1 = L.length := by rw [← sl, ← sp]; simp
  have hLl : L.length ≤ 65537 := by rw [hL]; have := parts_len 10 t.data.toList; omega
  have hLs : ∀ x ∈ L, x.length ≤ 65536 := by
    rw [hL]; intro x hx
    have := parts_sub 10 t.data.toList x hx
    omega
  have hcs : ∀ k (hk : k < L.length), ((Lib.splitB { data := #[10] } 0 (Lib.countB t { data := #[10] }) t).map Value.string).toArray[k]? = some (.string (bs L[k])) := fun k hk => by
    have e : Lib.splitB { data := #[10] } 0 (Lib.countB t { data := #[10] }) t = L.map bs := by
      rw [← sp, List.map_map]
      show _ = List.map (fun x : ByteArray => bs x.data.toList) _
      rw [show (fun x : ByteArray => bs x.data.toList) = id from funext bs_of, List.map_id]
    rw [e]; simp [hk]
  rw [hlen] at SP
  generalize ((Lib.splitB { data := #[10] } 0 (Lib.countB t { data := #[10] }) t).map Value.string).toArray = SC at SP hcs
  obtain ⟨E, hE⟩ : ∃ E, E = goP L 0 [] := ⟨_, rfl⟩
  rw [← hE]
  have HE : Hid (E = goP L 0 []) := hE
  have HV : Hid (Vars w) := V
  obtain ⟨i0, hi0, hz0, hz1, hz2⟩ := info_parts info23
  clear sp sl hlen hL hE V
  go_enter Tryz.func4, Tryz.ntmps4
  go_wp2_with (first | (go_at_call 8; refine NA.mono ?_; rintro e w1 ⟨rfl, hK, hb1⟩) | (go_at_call 9; refine (SP _ (((hb1.alloc hb1.size _).cell (p := ⟨2, 0, none⟩) (by show 2 < w.heap.size; have := HV.out.big; omega)).trans hm)).mono ?_; rintro e w2 ⟨rfl, hw2⟩; rw [hw2]))
  have V2 : Vars ((w1.alloc (.cells #[.map (some (w.heap.size + 1)), .map (some (w.heap.size + 2)), .map (some (w.heap.size + 3)), .map (some (w.heap.size + 4))] 34)).alloc (.cells SC 9)) := ((HV.out.call hb1).alloc _).alloc _
  have K2 := (hK.alloc (.cells #[.map (some (w.heap.size + 1)), .map (some (w.heap.size + 2)), .map (some (w.heap.size + 3)), .map (some (w.heap.size + 4))] 34)).alloc (.cells SC 9)
  have B2 : Below w.heap.size w ((w1.alloc (.cells #[.map (some (w.heap.size + 1)), .map (some (w.heap.size + 2)), .map (some (w.heap.size + 3)), .map (some (w.heap.size + 4))] 34)).alloc (.cells SC 9)) := (hb1.alloc hb1.size _).alloc (by have := hb1.size; simp; omega) _
  have R2 : rowAt ((w1.alloc (.cells #[.map (some (w.heap.size + 1)), .map (some (w.heap.size + 2)), .map (some (w.heap.size + 3)), .map (some (w.heap.size + 4))] 34)).alloc (.cells SC 9)) w1.heap.size = some #[.map (some (w.heap.size + 1)), .map (some (w.heap.size + 2)), .map (some (w.heap.size + 3)), .map (some (w.heap.size + 4))] := (rowAt_old _ _ _ (by simp)).trans (rowAt_new _ _ _ _)
  have S2 : rowAt ((w1.alloc (.cells #[.map (some (w.heap.size + 1)), .map (some (w.heap.size + 2)), .map (some (w.heap.size + 3)), .map (some (w.heap.size + 4))] 34)).alloc (.cells SC 9)) (w1.heap.size + 1) = some SC := rowAt_new2 _ _ _ _
  have Z2 : ((w1.alloc (.cells #[.map (some (w.heap.size + 1)), .map (some (w.heap.size + 2)), .map (some (w.heap.size + 3)), .map (some (w.heap.size + 4))] 34)).alloc (.cells SC 9)).heap.size = w1.heap.size + 2 := by simp
  generalize ((w1.alloc (.cells #[.map (some (w.heap.size + 1)), .map (some (w.heap.size + 2)), .map (some (w.heap.size + 3)), .map (some (w.heap.size + 4))] 34)).alloc (.cells SC 9)) = W at V2 K2 B2 R2 S2 Z2 ⊢
  have HW : Hid (Vars W ∧ Known W (w.heap.size + 1) (w.heap.size + 2) (w.heap.size + 3) (w.heap.size + 4) ∧ Below w.heap.size w W) := ⟨V2, K2, B2⟩
  have HCS : Hid (∀ k (hk : k < L.length), SC[k]? = some (.string (bs L[k]))) := hcs
  clear V2 K2 B2 hK hb1 SP NA hcs hm hd HV
  go_loopg [6, 19] L.length (fun gf s6 s19 wx => ∃ (k : Nat) (ws : List Int), k ≤ L.length ∧ L.length ≤ k + gf ∧ s19 = .int .i64 k ∧ wx.ownsRow W.heap.size 28 1 s6 ws.length (ints ws) ∧ Below W.heap.size W wx ∧ ws.length ≤ k ∧ goP (L.drop k) k ws = E)
  case atStart => exact ⟨0, [], by omega, by omega, by go_num, ⟨rfl, .inl ⟨rfl, rfl⟩⟩, Below.refl _ _, by simp, HE.out.symm⟩
  case round =>
    obtain ⟨k, ws, hk, hgk, rfl, hown, hbw, hwl, hgo⟩ := hrel
    have hbs := hbw.size
    by_cases hk2 : k < L.length
    · obtain ⟨g', rfl⟩ : ∃ g', gk = g' + 1 := ⟨gk - 1, by omega⟩
      have hln : wr.cell? ⟨w1.heap.size + 1, k, none⟩ = some (.string (bs L[k])) := (hbw.cell (p := ⟨w1.heap.size + 1, _, none⟩) (by show w1.heap.size + 1 < W.heap.size; omega)).trans ((rowAt_cell S2 k).trans (HCS.out k hk2))
      rw [goP_drop L k ws hk2] at hgo
      have hll := hLs L[k] (List.getElem_mem hk2)
      have SA := said_any (bs L[k]) (by rw [bs_size]; omega) wr
      rw [bs_data] at SA
      have hsl : (saidP L[k]).length ≤ 100000 := by
        have h1 := trim_len (cutB [59].contains L[k])
        have h2 := cutB_len [59].contains L[k]
        show (trimP (cutB [59].contains L[k])).length ≤ _
        omega
      generalize L[k] = ln at hln hgo hll SA hsl
      have hkd : decide ((k : Int) < L.length) = true := by simp; omega
      have HO : Hid (wr.ownsRow W.heap.size 28 1 u6 ws.length (ints ws)) := hown
      by_cases hse : saidP ln = []
      · rw [if_pos hse] at hgo
        have hq : (bs ([] : Bs)).toList.isEmpty = true := by rw [Lib.toList_data]; rfl
        clear HCS S2 R2 hown
        go_wp2_with (go_at_call 10; refine SA.mono ?_; rintro e w3 ⟨rfl, hb3⟩)
        go_roundg g'
        case measure => omega
        case rel => exact ⟨k + 1, ws, by omega, by omega, by go_num, own_call HO.out hb3, hbw.trans (hb3.mono hbs), by omega, hgo⟩
      · rw [if_neg hse] at hgo
        have hq : (bs (saidP ln)).toList.isEmpty = false := by
          rw [Lib.toList_data, bs_data]; cases hx : saidP ln with
          | nil => exact absurd hx hse
          | cons a b => rfl
        have R3 := R2
        have hwl2 : 4 * (ws.length : Int) % 4294967296 = 4 * ws.length := by omega
        have AD := addr_any (ws.length : Int)
        rw [hwl2] at AD
        have WO := fun X K V => wordOf_any (saidP ln) (4 * (ws.length : Int)) hsl (by omega) (by omega) (b0 := w.heap.size + 1) (b1 := w.heap.size + 2) (b2 := w.heap.size + 3) (b3 := w.heap.size + 4) X K V
        have HWO : Hid _ := WO
        have hs6 : ∃ a c, u6 = .slice a ws.length c := by
          rcases hown.2 with ⟨rfl, h0⟩ | ⟨g, cap, cur, rfl, _⟩
          · exact ⟨none, 0, by rw [h0]⟩
          · exact ⟨_, _, rfl⟩
        obtain ⟨sa, sc, rfl⟩ := hs6
        obtain ⟨sd, hsd⟩ : ∃ x, x = saidP ln := ⟨_, rfl⟩
        rw [← hsd] at hgo hq SA HWO hsl
        have HG : Hid (_ = E) := hgo
        clear HCS S2 hown hse hsd WO hgo
        go_wp2_with (go_at_call 10; refine SA.mono ?_; rintro e w3 ⟨rfl, hb3⟩)
        have hb3s := hb3.size
        have BW : Below W.heap.size W w3 := hbw.trans (hb3.mono hbs)
        obtain ⟨c0, c1, c2, c3⟩ := row4 _ _ _ _ _ _ ((rowAt_below BW w1.heap.size (by omega)).trans R2)
        have K3 : Hid (Known w3.drew (w.heap.size + 1) (w.heap.size + 2) (w.heap.size + 3) (w.heap.size + 4) ∧ Vars w3.drew) := ⟨(HW.out.2.1.call BW).drew, (HW.out.1.call BW).drew⟩
        have WO3 := HWO.out w3.drew K3.out.1 K3.out.2
        have hg2 := HG.out
        clear HWO HG
        cases hw : wordP sd (4 * (ws.length : Int)) with
        | none =>
          rw [hw] at WO3 hg2
          have hE2 : E = .line (k + 1) := hg2.symm
          subst hE2
          clear hg2
          go_region_with (first | (go_at_call 12; refine (AD _).mono ?_; rintro e w' ⟨rfl, hw'⟩; obtain rfl := hw'.symm; clear hw') | (go_at_call 11; refine WO3.mono ?_; rintro e w4 ⟨rfl, hb4⟩))
          all_goals go_wp2
          all_goals go_ret3
          all_goals exact ⟨_, by simp only [peN, peE]; rfl, ⟨rfl, .inl ⟨rfl, rfl⟩⟩, (HW.out.2.2.trans (BW.mono HW.out.2.2.size)).drew.trans (hb4.mono (by show w.heap.size ≤ w3.heap.size; have := HW.out.2.2.size; omega))⟩
        | some x =>
          rw [hw] at hg2
          rw [hw, wordP_some hw] at WO3
          have hO3 := (own_call HO.out hb3)
          have HO3 : Hid (w3.ownsRow W.heap.size 28 1 (.slice sa ws.length sc) ws.length (ints ws)) := hO3
          clear hO3
          go_region_with (first | (go_at_call 12; refine (AD _).mono ?_; rintro e w' ⟨rfl, hw'⟩; obtain rfl := hw'.symm; clear hw') | (go_at_call 11; refine WO3.mono ?_; rintro e w4 ⟨rfl, hb4⟩))
          all_goals
            have O4 : Hid (w4.ownsRow W.heap.size 28 1 (.slice sa ws.length sc) ws.length (ints ws)) := own_call (w := w3.drew) HO3.out hb4
            have q4 : w3.heap.size ≤ w4.heap.size := hb4.size
            go_wp2_with (at_builtin; refine wpList_append_own _ rfl _ _ 23 rfl W.heap.size 28 i0 (.int .u32 0) 1 4 Tryz.underlying23 hi0 hz0 hz1 hz2 rfl (by decide) _ ws.length _ rfl (O4.out.alloc _) ⟨w4.heap.size, 0, none⟩ 1 1 [.int .u32 x] rfl rfl (cell_new1 _ _ _) (by intro u hu; simp at hu; subst hu; rfl) (by unfold maxLen; omega) (by omega) (by simp; omega) ?_; intro v5 w5 hown5 hgrow5 hnil5)
            go_roundg g'
            case measure => omega
            case rel =>
              refine ⟨k + 1, ws ++ [x], by omega, by omega, by go_num, by rw [List.length_append, ints_snoc]; exact hown5, ?_, by simp; omega, hg2⟩
              exact ((BW.drew.trans (hb4.mono (by show _ ≤ w3.heap.size; omega))).alloc (by omega) _).grown hgrow5 (by simp; omega) (fun j hj => (own_lt O4.out _ hj).1)
    · obtain rfl : k = L.length := by omega
      have hE2 : E = .words ws := by rw [← hgo]; simp [goP]
      clear hgo
      subst hE2
      go_wp2
      go_ret3
      exact ⟨_, rfl, ⟨hown.1, hown.2.imp id fun ⟨g, cap, cur, x1, x2, x3⟩ => ⟨g, cap, cur, x1, by have := HW.out.2.2.size; omega, x3⟩⟩, HW.out.2.2.trans (hbw.mono HW.out.2.2.size)⟩
theorem parse_any (t : ByteArray) (w : World) (V : Vars w) : Calls Tryz.prog 4 #[.string t] w fun e w' => ∃ v, e = .returned (.tuple #[v, .int .i64 (parseN t.data.toList), .int .i64 (parseE t.data.toList)]) ∧ w'.ownsRow w.heap.size 28 1 v (parseW t.data.toList).length (ints (parseW t.data.toList)) ∧ Below w.heap.size w w' := by
  have hts : t.data.toList.length = t.size := by simp only [ByteArray.size, Array.length_toList]
  by_cases h : 65536 < t.size
  · have e1 : parseW t.data.toList = [] := by unfold parseW; rw [hts, if_pos h]
    have e2 : parseN t.data.toList = 0 := by unfold parseN; rw [hts, if_pos h]
    have e3 : parseE t.data.toList = 60 := by unfold parseE; rw [hts, if_pos h]
    rw [e1, e2, e3]
    exact (parse_long t h w).mono fun e w' ⟨he, hw⟩ => ⟨_, he, ⟨rfl, .inl ⟨rfl, rfl⟩⟩, hw ▸ Below.refl _ _⟩
  · have e1 : parseW t.data.toList = peW (goP (parts 10 t.data.toList) 0 []) := by unfold parseW; rw [hts, if_neg h]; cases goP (parts 10 t.data.toList) 0 [] <;> rfl
    have e2 : parseN t.data.toList = peN (goP (parts 10 t.data.toList) 0 []) := by unfold parseN; rw [hts, if_neg h]; cases goP (parts 10 t.data.toList) 0 [] <;> rfl
    have e3 : parseE t.data.toList = peE (goP (parts 10 t.data.toList) 0 []) := by unfold parseE; rw [hts, if_neg h]; cases goP (parts 10 t.data.toList) 0 [] <;> rfl
    rw [e1, e2, e3]
    exact parse_go t (by omega) w V
end Go.Proofs.YtmldlkcgaepaaaaGreatDoor
