/-
  Layer 6's Show, the program's: it returns the plain text of every word at every address.
-/
import Derived.Test.YtmldlkcgaepaaaaGreatDoorMSh2
import Derived.Test.YtmldlkcgaepaaaaGreatDoorMMap
import Derived.Deep.LoopGhost
namespace Go.Proofs.YtmldlkcgaepaaaaGreatDoor
open Go.ChangeShapes Go.WideShapes Go.ChangeAt Go.RowKit
attribute [local go_sem ↓] loadIn_seal storeIn_seal
attribute [local go_sem] loadIn_run storeIn_run rowAt_at rowAt_old rowAt_drew rowAt_drewN roomCpu_new roomIn_new roomAt_old roomAt_drew roomAt_drewN putCpu_new putIn_new Cp.zero_fold In.fold putRow_past rowCpu_put rowIn_put size_put putRow_drew putRow_drewN alloc_drewN setCell_drewN Cp.at16 Cp.at17 Cp.at18 Cp.at19 Cp.at20 Cp.at21 Cp.size Cp.set16 Cp.set17 Cp.set18 Cp.set19 Cp.set20 Cp.set21 In.at0 In.at1 In.at2 In.at3 In.at4 In.at5 In.at6 In.at7 In.size In.set0 In.set1 In.set2 In.set3 In.ne Cp.ne In.set4 In.set5 In.set6 In.set7

theorem wr_of {i : In} (h : rightB i = true) : Wr i := by
  obtain ⟨hA, hB, hC, hF⟩ := right_bd h
  refine ⟨hA, hB, hC, ?_⟩
  rcases hF with ⟨_, hN, _⟩ | ⟨_, _, hN⟩ | ⟨_, _, _, hN⟩ | ⟨_, _, _, hN⟩ <;> omega
theorem op_of {i : In} (h : rightB i = true) : 0 ≤ i.O ∧ i.O < 16 := by
  obtain ⟨_, _, _, hF⟩ := right_bd h
  rcases hF with ⟨_, hN, h0, h1⟩ | ⟨_, _, hN, _, h0, h1⟩ | ⟨_, _, h0, hN⟩ | ⟨_, _, h0, hN⟩ <;> omega
theorem kinds_bd (i : In) : 1 ≤ (kindsP i).length ∧ (kindsP i).length ≤ 3 := by
  unfold kindsP lastP; repeat' split
  all_goals simp
theorem kinds_ascii (i : In) : ∀ j (h : j < (bs (kindsP i)).size), ((bs (kindsP i))[j]'h).toNat < 128 := by
  have e : ∀ c ∈ kindsP i, c.toNat < 128 := by
    unfold kindsP lastP; repeat' split
    all_goals decide
  intro j h
  exact e _ (by simp [bs, ByteArray.getElem_eq_getElem_data])
theorem cond_len (a : Int) : (condName a).length = 2 := by unfold condName; split <;> rfl
theorem operand_len (i : In) (hi : Wr i) (a : Int) (k : UInt8) : (operandP i a k).length ≤ 22 := by
  have ht := toP_bd a i.N
  have l1 := Lib.itoa_length_le i.A (by have := hi.A; omega) (by have := hi.A; omega)
  have l2 := Lib.itoa_length_le i.B (by have := hi.B; omega) (by have := hi.B; omega)
  have l3 := Lib.itoa_length_le i.C (by have := hi.C; omega) (by have := hi.C; omega)
  have l4 := Lib.itoa_length_le i.N (by have := hi.N; omega) (by have := hi.N; omega)
  have l5 := Lib.itoa_length_le (toP a i.N) (by omega) (by omega)
  have l6 := cond_len i.A
  unfold operandP regP
  repeat' split
  all_goals (try simp only [List.length_append, List.length_cons, List.length_nil])
  all_goals omega
theorem name_size (i : In) : (bs (nameP i)).size ≤ 6 := by
  have h0 := op_size i.O
  have h1 := let_size i.U 85
  have h2 := let_size i.V 86
  rw [bs_size] at h0 h1 h2 ⊢
  unfold nameP memName
  repeat' split
  all_goals first | decide | (simp only [List.length_append]; omega)
theorem info9 : (Tryz.prog.info? 9).map (fun i => (i.zero, i.size, i.bytes)) = some (some (.string ⟨#[]⟩), 1, 16) := by kernel_rfl

theorem show_no (x a : Int) (w : World) (V : Vars w) (x0 : 0 ≤ x) (x1 : x ≤ 4294967295) (h : decOk x = false) :
    Calls Tryz.prog 15 #[.int .u32 x, .int .u32 a] w fun e w' => e = .returned (.string (bs (showP x a))) ∧ Below w.heap.size w w' := by
  have hs : showP x a = wordT ++ [32] ++ (hexS x 8).data.toList := by simp [showP, h]
  have hD := decode_any x w V.ways x0 x1
  rw [h] at hD
  have hz : (hexS x 8).size = 8 := (strOfNums_size _).trans (hl_len x 8)
  rw [hs]
  clear hs h V
  go_enter Tryz.func15, Tryz.ntmps15
  go_wp2_with (first | (go_at_call 33; refine hD.mono ?_; rintro e w1 ⟨rfl, hb⟩) | (go_at_call 34; refine (hex_any x _ x0 x1).mono ?_; rintro e w2 ⟨rfl, hb2⟩))
  go_ret
  refine ⟨ret_str ?_, (hb.alloc (by exact hb.size) _).trans (hb2.mono (by have := hb.size; simp; omega))⟩
  have := bs_app (wordT ++ [32]) (hexS x 8).data.toList
  rw [bs_of] at this
  exact this

/-- The texts of the first k operands. -/
def opsTo (i : In) (a : Int) (k : Nat) : List Bs := ((kindsP i).take k).map (operandP i a)
theorem opsTo_len (i : In) (a : Int) (k : Nat) (h : k ≤ (kindsP i).length) : (opsTo i a k).length = k := by simp [opsTo]; omega
theorem opsTo_succ (i : In) (a : Int) (k : Nat) (h : k < (kindsP i).length) : opsTo i a (k + 1) = opsTo i a k ++ [operandP i a (kindsP i)[k]] := by
  rw [opsTo, List.take_add_one, List.getElem?_eq_getElem h, List.map_append]; rfl
theorem opsTo_all (i : In) (a : Int) : opsTo i a (kindsP i).length = (kindsP i).map (operandP i a) := by simp [opsTo]
theorem bs_at (l : Bs) (j : Nat) (h : j < (bs l).size) (h' : j < l.length) : (bs l)[j]'h = l[j] := by simp [bs, ByteArray.getElem_eq_getElem_data]
set_option maxHeartbeats 400000 in
theorem show_yes (x a : Int) (w : World) (V : Vars w) (x0 : 0 ≤ x) (x1 : x ≤ 4294967295) (h : decOk x = true) :
    Calls Tryz.prog 15 #[.int .u32 x, .int .u32 a] w fun e w' => e = .returned (.string (bs (showP x a))) ∧ Below w.heap.size w w' := by
  have hs : showP x a = nameP (decI x) ++ [32] ++ Lib.join ((kindsP (decI x)).map (operandP (decI x) a)) [44, 32] := by simp [showP, h]
  have hr : rightB (decI x) = true := by simp only [decOk, Bool.and_eq_true] at h; simp [decI, decOk, h]
  have hD := decode_any x w V.ways x0 x1
  rw [h] at hD
  rw [hs]
  clear hs h
  obtain ⟨i, hi⟩ : ∃ i, i = decI x := ⟨_, rfl⟩
  rw [← hi] at hr hD ⊢
  clear hi
  have hW := wr_of hr
  have hO := op_of hr
  have hz := name_size i
  obtain ⟨i0, hi0, hz0, hz1, hz2⟩ := info_parts info9
  have KB := kinds_bd i
  have HA := kinds_ascii i
  have HL := bs_size (kindsP i)
  obtain ⟨ks, hks⟩ : ∃ ks, ks = bs (kindsP i) := ⟨_, rfl⟩
  have KN : ∀ w, Calls Tryz.prog 35 #[.agg i.cells] w fun e w' => e = .returned (.string ks) ∧ Below w.heap.size w w' := by rw [hks]; exact kinds_any i
  rw [← hks] at HL HA
  have hchs : ∀ pos (h1 : pos < ks.size) (h2 : pos < (kindsP i).length), (ks[pos]'h1) = (kindsP i)[pos] := by subst hks; exact fun pos h1 h2 => bs_at _ _ _ _
  clear hks
  have V0 : Hid (Vars w) := V
  clear V hr
  go_enter Tryz.func15, Tryz.ntmps15
  go_wp2_with (first | (go_at_call 33; refine hD.mono ?_; rintro e w1 ⟨rfl, hb⟩; have hs := hb.size) | (go_at_call 35; refine (KN _).mono ?_; rintro e w2 ⟨rfl, hb2⟩))
  have hb2s := hb2.size
  have HV2 : Hid (Vars w2) := ((V0.out.call hb).alloc _).call hb2
  have hbb : Below w.heap.size w w2 := (hb.alloc hs _).trans (hb2.mono (by simp; omega))
  have hrow : rowAt w2 w1.heap.size = some i.cells := (rowAt_below hb2 _ (by simp)).trans (rowAt_new _ _ _ _)
  have hlt1 : w1.heap.size < w2.heap.size := by simp at hb2s; omega
  clear hb hb2 hb2s hD KN V0 x0 x1 hs
  go_loopg [7] 3 (fun gf s7 wx => ∃ pos : Nat, pos ≤ ks.size ∧ ks.size ≤ pos + gf ∧ wx.heap[w2.heap.size]? = some (.stringIter ks pos) ∧ Below w2.heap.size w2 wx ∧ wx.ownsRow (w2.heap.size + 1) 9 1 s7 pos (strs (opsTo i a pos)) ∧ w2.heap.size < wx.heap.size)
  case atStart => exact ⟨0, Nat.zero_le _, by omega, World.iter_heap w2 ks 0, (Below.refl _ w2).alloc (Nat.le_refl _) _, ⟨rfl, .inl ⟨rfl, rfl⟩⟩, by simp [World.iter]⟩
  case round =>
    obtain ⟨pos, hp1, hp2, hit, hbw, hown, hlt2⟩ := hrel
    by_cases hlt : pos < ks.size
    · obtain ⟨g', rfl⟩ : ∃ g', gk = g' + 1 := ⟨gk - 1, by omega⟩
      have hk : pos < (kindsP i).length := by omega
      have hch := hchs pos hlt hk
      have ha := HA pos hlt
      have hnx : ∀ ty, (Instr.next (.pointer (some ⟨w2.heap.size, 0, none⟩)) true ty).run Tryz.prog wr = _ := fun ty => Lib.run_next_ascii_at wr w2.heap.size ks pos ty hit hlt ha
      have hit2 := Lib.iterAt_heap wr w2.heap.size ks pos (pos + 1) hit
      have hbw2 := Lib.below_iterAt hbw (k := w2.heap.size) (Nat.le_refl _) ks (pos + 1)
      have hown2 := ownsRow_iterAt hown (k := w2.heap.size) (by omega) ks (pos + 1)
      have hsz2 := Lib.iterAt_size wr w2.heap.size ks (pos + 1)
      obtain ⟨W, hWd⟩ : ∃ W, wr.iterAt w2.heap.size ks (pos + 1) = W := ⟨_, rfl⟩
      rw [hWd] at hnx hit2 hbw2 hown2 hsz2
      rw [hch] at hnx
      have hsu := opsTo_succ i a pos hk
      obtain ⟨c, hcc⟩ : ∃ c, c = (kindsP i)[pos] := ⟨_, rfl⟩
      rw [← hcc] at hnx hsu
      have hrW : rowAt W w1.heap.size = some i.cells := (rowAt_below hbw2 _ hlt1).trans hrow
      have OP : Hid (Calls Tryz.prog 36 #[.agg i.cells, .int .i32 c.toNat, .int .u32 a] W _) := operand_any i hW c a W (HV2.out.below hbw2 HV2.out.big)
      clear hcc hbw hit hown hWd HA hch ha hchs hrow HL
      go_wp2_with (first | (go_at_call 36; refine OP.out.mono ?_; rintro e W' ⟨rfl, hbc⟩) | (at_builtin; go_loud (refine wpList_append_own _ rfl _ _ 22 rfl (w2.heap.size + 1) 9 i0 (.string ⟨#[]⟩) 1 16 Tryz.underlying22 hi0 hz0 hz1 hz2 rfl (by decide) _ pos _ rfl ((own_call hown2 hbc).alloc _) ⟨W'.heap.size, 0, none⟩ 1 1 [.string (bs (operandP i a c))] rfl rfl (cell_new1 _ _ _) (by intro u hu; simp at hu; subst hu; rfl) (by unfold maxLen; omega) (by omega) (by have := hbc.size; simp; omega) ?_; intro v3 w3 hown3 hgrow3 hnil3)))
      have hbs := hbc.size
      have hX := own_call hown2 hbc
      have hitW : W'.heap[w2.heap.size]? = some (.stringIter ks (pos + 1)) := (hbc.block _ (by omega)).trans hit2
      go_roundg g'
      case measure => omega
      case rel =>
        refine ⟨pos + 1, by omega, by omega, ?_, ?_, by rw [hsu, strs_snoc]; exact hown3, ?_⟩
        · exact (hgrow3.block w2.heap.size (by simp; omega) (fun e => by have := (own_lt hX _ e.symm).1; omega)).trans ((Below.heap_alloc _ _ _ (by omega)).trans hitW)
        · exact ((hbw2.trans (hbc.mono (by omega))).alloc (by omega) _).grown hgrow3 (by simp; omega) (fun j hj => by have := (own_lt hX _ hj).1; omega)
        · have := hgrow3.size; simp at this; omega
    · obtain rfl : pos = (kindsP i).length := by omega
      have hnx : ∀ ty, (Instr.next (.pointer (some ⟨w2.heap.size, 0, none⟩)) true ty).run Tryz.prog wr = _ := fun ty => Lib.run_next_end_at wr w2.heap.size ks _ ty hit hlt
      have hrW : rowAt wr w1.heap.size = some i.cells := (rowAt_below hbw _ hlt1).trans hrow
      have HVr : Hid (Vars wr) := HV2.out.below hbw HV2.out.big
      rw [opsTo_all] at hown
      obtain ⟨g, cap, rfl, hg1, hg2, hcap, hcell, _⟩ := own_row hown (by omega)
      have hln : ((kindsP i).map (operandP i a)).length = (kindsP i).length := by simp
      have hjl := join_len [44, 32] 22 ((kindsP i).map (operandP i a)) (fun z hz => by obtain ⟨c, _, rfl⟩ := List.mem_map.1 hz; exact operand_len i hW a c)
      rw [hln] at hjl
      have hjl2 : (Lib.join ((kindsP i).map (operandP i a)) [44, 32]).length ≤ 72 := by simp only [List.length_cons, List.length_nil] at hjl; omega
      have JN : ∀ W', Below wr.heap.size wr W' → Calls Tryz.prog 38 #[.slice (some ⟨g, 0, none⟩) (kindsP i).length cap, .string { data := #[44, 32] }] W' fun e w' => e = .returned (.string (bs (Lib.join ((kindsP i).map (operandP i a)) [44, 32]))) ∧ Below W'.heap.size W' w' := fun W' hb => by
        have := Tryz.strings_Join g 0 cap (((kindsP i).map (operandP i a)).map bs) { data := #[44, 32] } W' (fun j x hx => by
          have hj : j < (kindsP i).length := by
            have := (List.getElem?_eq_some_iff.1 hx).1
            simpa using this
          rw [Nat.zero_add, hb.cell (p := ⟨g, j, none⟩) hg2, hcell j hj, strs_at (by simpa using hj)]
          simp only [List.getElem?_map, List.getElem?_eq_getElem hj, Option.map_some, Option.some.injEq] at hx
          rw [← hx]; simp) (Nat.lt_of_lt_of_le hg2 hb.size) (by simp; omega) (by simp; omega) (by
          rw [List.map_map]; simp only [Function.comp_def, bs_data]; rw [List.map_id'] ; exact Nat.le_trans hjl2 (by omega))
        simp only [List.map_map, Function.comp_def, bs_data, List.length_map] at this
        exact this
      have JH : Hid _ := JN
      have hjs : (bs (Lib.join ((kindsP i).map (operandP i a)) [44, 32])).size ≤ 72 := by rw [bs_size]; exact hjl2
      clear hjl hjl2 hln hcell hown HA hchs HL hrow HV2 JN
      go_wp2_with (first | (go_at_call 37; refine (name_any i _ HVr.out hO.1 hO.2).mono ?_; rintro e w4 ⟨rfl, hb4⟩) | (go_at_call 38; refine (JH.out _ hb4).mono ?_; rintro e w5 ⟨rfl, hb5⟩))
      go_ret
      refine ⟨ret_str ?_, ?_⟩
      · rw [← bs_app, ← bs_app]; rfl
      · have q1 := hbb.size
        have q2 := hbw.size
        exact ((hbb.trans (hbw.mono hbb.size)).trans (hb4.mono (by omega))).trans (hb5.mono (by have := hb4.size; omega))
theorem show_any (x a : Int) (w : World) (V : Vars w) (x0 : 0 ≤ x) (x1 : x ≤ 4294967295) :
    Calls Tryz.prog 15 #[.int .u32 x, .int .u32 a] w fun e w' => e = .returned (.string (bs (showP x a))) ∧ Below w.heap.size w w' := by
  cases h : decOk x
  · exact show_no x a w V x0 x1 h
  · exact show_yes x a w V x0 x1 h
end Go.Proofs.YtmldlkcgaepaaaaGreatDoor
