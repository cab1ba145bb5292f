/-
  Layer 17: readFile: its walk where the header is there.
-/
import Derived.Test.YtmjflbleobmjdaaGreatDoorRfa
namespace Go.Proofs.YtmjflbleobmjdaaGreatDoor
set_option linter.unusedVariables false
set_option linter.unusedSimpArgs false
open Go.ChangeShapes Go.WideShapes Go.ChangeAt Go.RowKit
attribute [local go_sem ↓] loadSec_seal storeSec_seal eqlSec_seal zeroSec
attribute [local go_sem] loadSec_run storeSec_run rowAt_at rowAt_old rowAt_drew rowAt_drewN roomSec_new roomAt_old roomAt_drew roomAt_drewN putSec_new putRow_past rowSec_put size_put putRow_drew putRow_drewN alloc_drewN setCell_drewN sec_size

set_option linter.unusedVariables false
attribute [local go_sem ↓] appN_seal

/-- The rest of readFile: what it leaves. -/
def RfQ (B0 n1 x d : Nat) (D : Dk) (lv : Value) (ls : List Int) (L : List Fm) (e : En) (secs : List Int) (r : Option (Nat → Nat)) (q : Ending) (Y : World) : Prop := match r with
  | some u' => ∃ L' fv' rv', q = .returned (.bool true) ∧ L'.map Fm.f = L.map Fm.f ++ [⟨e.nm, e.hd, e.ln, secs⟩] ∧ RdX B0 n1 x d D lv ls L' u' fv' rv' Y
  | none => q = .returned (.bool false)
set_option maxHeartbeats 8000000 in
theorem readFile_some {B0 n1 x d : Nat} {D : Dk} {lv fv rv : Value} {ls : List Int} {L : List Fm} {u : Nat → Nat} {X : World} (h : RdX B0 n1 x d D lv ls L u fv rv X) (hR : Rep X d D) (e : En) (hL : L.length < 200) (hbe : Behind L e) (secs : List Int) (hh : headP D.n D.S e.hd e.ln = some secs) (hsl : secs.length ≤ 1000000) :
    Calls Tryz.prog 57 #[.pointer (some ⟨x, 0, none⟩), e.val] X fun r Y => RfQ B0 n1 x d D lv ls L e secs (takeAll D.n 0 1 u secs) r Y ∧ Tou (fun k => k = x ∨ fv.ownBlock = some k) X Y := by
  obtain ⟨c0, c1, _⟩ := h.cell
  have hx : x < X.heap.size := Nat.lt_of_lt_of_le h.xn h.big
  have HH := hidD (fun Y (hY : Below X.heap.size X Y) => readHeader_any d D e.nm e.hd e.ln Y (hR.below hY))
  rw [hh] at HH
  have hn0 := hR.n1
  have d1 : ((L.length : Int) == 200) = false := by simp; omega
  obtain ⟨fa, fc, rfl⟩ := h.fs.isSl
  have HX := hidD h
  have HBE := hidD hbe
  unfold En.val
  clear h hR hh hbe
  go_enter Tryz.func57, Tryz.ntmps57
  go_upto_region 2 with fail
  go_cut [33] from 13 to 33 (fun s33 Y => s33 = .bool false ∧ ∃ nq, Y = (X.alloc (.cells #[.string e.nm, .int .i64 e.hd, .int .i64 e.ln] 25)).drewN nq)
  case first =>
    rcases HBE.out with rfl | ⟨last, hl, hb⟩
    · go_quiet (fail)
      go_wp2_with fail
      go_meet
      exact ⟨rfl, _, rfl⟩
    · obtain ⟨g, c, he, hc, h0, h1, h2⟩ := HX.out.fs.lastAt hl
      injection he with e0 e1 e2
      subst e0 e2
      have hg := World.block_lt_of_cell? _ _ hc
      simp only [] at hg
      have d2 : decide ((L.length : Int) > 0) = true := decide_eq_true (by omega)
      have d3 : decide (0 < (L.length : Int)) = true := decide_eq_true (by omega)
      have e1 : ((L.length : Int) - 1).toNat = L.length - 1 := by omega
      have i0 : (0 : Int) ≤ (L.length : Int) - 1 := by omega
      have i1 : (L.length : Int) - 1 < (L.length : Int) := by omega
      unfold lessS at hb
      go_quiet (fail)
      go_wp2_with fail
      go_meet
      exact ⟨rfl, _, rfl⟩
  case rest =>
    obtain ⟨rfl, nq, rfl⟩ := hcut
    go_upto_region 4 with fail
    go_cut [6, 7] from 34 to 42 (fun s6 s7 Y => P4 X e (some secs) s6 s7 Y)
    case first =>
      go_region_with (go_at_call 20; refine (HH.out _ (by refine bdrewN ?_ _; go_grown)).mono ?_; rintro r w1 ⟨he, hb⟩; obtain ⟨v, rfl, ho⟩ := (show ∃ v, r = _ ∧ _ from he); obtain ⟨a', n', c', rfl⟩ := ho.isSl; have HB := hidD hb; have HO := hidD ho; obtain ⟨hc, hf⟩ := bcell hb; clear hb he ho)
      all_goals
        go_wp2_with fail
        go_meet
        first
          | exact p4_behind (dl_a HB.out) (HO.out.base (by simp))
          | exact p4_before HB.out rfl HO.out
    case rest =>
      obtain ⟨rfl, gb, a', n', c', rfl, hbk, hgb, ho, hb⟩ := hcut
      have hXY := HX.out.below hb
      have hrow : RowI (AX B0 x (.slice fa L.length fc)) wc (.slice a' n' c') secs := (ho.row hsl).mono fun b hb2 => ⟨by have := HX.out.b0; omega, by omega, fun e2 => by have := (HX.out.fs.lt b e2).2; omega⟩
      have HC := hidD (claim_any hXY (.slice a' n' c') secs hrow hn0)
      have k3 : wc.cell? ⟨gb, 3, none⟩ = some (.slice a' n' c') := by rw [cell_of_row wc gb 3 _ _ (0, 0) hbk]; rfl
      have HXY := hidD hXY
      have HRW := hidD hrow
      have HB := hidD hb
      have HBK := hidD hbk
      cases ht : takeAll D.n 0 1 u secs with
      | none =>
        rw [ht] at HC
        have HT0 := hidD ht
        clear ht hXY hrow hb ho hbk
        go_wp2_with (go_at_call 55; refine HC.out.mono ?_; rintro r w2 ⟨he, htu⟩; obtain rfl := (show r = _ from he); have HT := hidD htu; clear he htu)
        go_ret
        refine ⟨?_, (Below.tou HB.out (fun k => k = x ∨ (Value.slice fa L.length fc).ownBlock = some k)).trans HT.out (fun y _ hy => .inl hy)⟩
        rw [HT0.out]
        exact rfl
      | some u' =>
        rw [ht] at HC
        have HT0 := hidD ht
        clear ht hXY hrow hb ho hbk
        go_upto_region 7 with (go_at_call 55; refine HC.out.mono ?_; rintro r w2 ⟨he, htu⟩; obtain ⟨rv', rfl, hrd⟩ := (show ∃ rv', r = _ ∧ _ from he); have HT := hidD htu; have HD := hidD hrd; clear he htu hrd)
        have hgx : gb ≠ x := by have := HX.out.xn; have := HX.out.big; omega
        have hgw : gb < wc.heap.size := blk_lt HBK.out
        have hbk2 : w2.heap[gb]? = some (.cells #[.string e.nm, .int .i64 e.hd, .int .i64 e.ln, .slice a' n' c'] 54 (0, 0)) := (HT.out.block gb hgw hgx).trans HBK.out
        have hrow2 := HXY.out.tou HRW.out HT.out
        obtain ⟨g, n, c, Z, hr, ho2, hg2, hat⟩ := app_file (Y := w2) (m := ⟨⟨e.nm, e.hd, e.ln, secs⟩, .slice a' n' c'⟩) HD.out.fs HD.out.big (by omega) rfl (by have := HD.out.xn; omega)
        have HRA := hidD (HD.out.append (m := ⟨⟨e.nm, e.hd, e.ln, secs⟩, .slice a' n' c'⟩) hrow2 ho2 hg2 hat)
        have hx2 : x < w2.heap.size := Nat.lt_of_lt_of_le HD.out.xn HD.out.big
        have g0 : w2.cell? ⟨gb, 0, none⟩ = some (.string e.nm) := by rw [cell_of_row w2 gb 0 _ _ (0, 0) hbk2]; rfl
        have g1 : w2.cell? ⟨gb, 1, none⟩ = some (.int .i64 e.hd) := by rw [cell_of_row w2 gb 1 _ _ (0, 0) hbk2]; rfl
        have g2 : w2.cell? ⟨gb, 2, none⟩ = some (.int .i64 e.ln) := by rw [cell_of_row w2 gb 2 _ _ (0, 0) hbk2]; rfl
        have g3 : w2.cell? ⟨gb, 3, none⟩ = some (.slice a' n' c') := by rw [cell_of_row w2 gb 3 _ _ (0, 0) hbk2]; rfl
        have hgb2 : gb < w2.heap.size := blk_lt hbk2
        have f1 := HD.out.cell.2.1
        have fx : (Value.slice fa L.length fc).ownBlock ≠ some x := fun e2 => by have := (HD.out.fs.lt x e2).1; have := HD.out.xn; omega
        have zx : Z.heap[x]? = w2.heap[x]? := (hg2.block x (by simp; omega) (fun e2 => fx e2.symm)).trans (Below.heap_alloc _ _ _ hx2)
        have z1 : Z.cell? ⟨x, 1, none⟩ = some (.slice fa L.length fc) := (World.cell?_of_block zx).trans f1
        have z2 : Z.frozen? ⟨x, 1, none⟩ = false := (World.frozen?_of_block zx).trans (room_fz HD.out.room (by decide))
        have HG2 := hidD hg2
        simp only [Fm.cs] at hr
        clear hbk2 hrow2 ho2 hg2 hat fx zx
        go_region
        all_goals
          go_wp2_with fail
          go_ret
          refine ⟨?_, ?_⟩
          · rw [HT0.out]
            exact ⟨_, _, _, rfl, by simp, HRA.out⟩
          · have t1 := (Below.tou HB.out (fun k => k = x ∨ (Value.slice fa L.length fc).ownBlock = some k)).trans HT.out (fun y _ hy => .inl hy)
            have t2 : Tou (fun k => k = x ∨ (Value.slice fa L.length fc).ownBlock = some k) w2 Z := ⟨HG2.out.os, HG2.out.tape, HG2.out.output, by have := HG2.out.size; simp at this; omega, fun k hk hne => (HG2.out.block k (by simp; omega) (fun e2 => hne (.inr e2.symm))).trans (Below.heap_alloc _ _ _ hk)⟩
            exact (t1.trans t2 (fun _ _ hy => hy)).set ⟨x, 1, none⟩ (.inl rfl) _
theorem headP_len {n : Nat} {S : Nat → Nat → Int} {h len : Int} {secs : List Int} (hh : headP n S h len = some secs) : secs.length ≤ 251 := by
  unfold headP at hh
  cases hm : markedP n S h headM 256000 with
  | none => rw [hm] at hh; cases hh
  | some m =>
    rw [hm] at hh
    simp only [] at hh
    split at hh
    · injection hh with hh
      rw [← hh, List.length_cons, wordsP_len]
      have := (marked_le hm).2.2.2.2
      unfold pieces; omega
    · cases hh
theorem last_map (L : List Fm) : (L.map Fm.f).getLast? = L.getLast?.map Fm.f := List.getLast?_map
/-- readFile, whole. -/
theorem readFile_any {B0 n1 x d : Nat} {D : Dk} {lv fv rv : Value} {ls : List Int} {L : List Fm} {u : Nat → Nat} {X : World} (h : RdX B0 n1 x d D lv ls L u fv rv X) (hR : Rep X d D) (e : En) (hL : L.length ≤ 200) :
    Calls Tryz.prog 57 #[.pointer (some ⟨x, 0, none⟩), e.val] X fun r Y => RfP B0 n1 x d D lv ls (addF D.n D.S (L.map Fm.f) u e) r Y ∧ Tou (fun k => k = x ∨ fv.ownBlock = some k) X Y := by
  unfold addF
  rw [List.length_map]
  by_cases h200 : L.length = 200
  · rw [if_pos h200]
    exact (readFile_full h e h200).mono fun r Y ⟨hr, hb⟩ => ⟨hr, Below.tou hb _⟩
  · rw [if_neg h200]
    have hlt : L.length < 200 := by omega
    by_cases hbe : Behind L e
    · have hc : lowB (L.map Fm.f) e.nm = false := by
        unfold lowB
        rw [last_map]
        rcases hbe with rfl | ⟨last, hl, hb⟩
        · rfl
        · rw [hl]; simp [hb]
      rw [hc, if_neg (by simp)]
      cases hh : headP D.n D.S e.hd e.ln with
      | none => exact (readFile_head h hR e hlt hbe hh).mono fun r Y ⟨hr, hb⟩ => ⟨hr, Below.tou hb _⟩
      | some secs =>
        refine (readFile_some h hR e hlt hbe secs hh (by have := headP_len hh; omega)).mono fun r Y ⟨hr, ht⟩ => ⟨?_, ht⟩
        show RfP B0 n1 x d D lv ls ((takeAll D.n 0 1 u secs).map fun v => (L.map Fm.f ++ [⟨e.nm, e.hd, e.ln, secs⟩], v)) r Y
        cases hk : takeAll D.n 0 1 u secs with
        | none => rw [hk] at hr; exact hr
        | some u' =>
          rw [hk] at hr
          obtain ⟨L', fv', rv', h1, h2, h3⟩ := hr
          exact ⟨L', fv', rv', h1, h2, h3⟩
    · have hl0 : ∃ last, L.getLast? = some last := by
        cases hq : L.getLast? with
        | none => exact absurd (.inl (List.getLast?_eq_none_iff.1 hq)) hbe
        | some l => exact ⟨l, rfl⟩
      obtain ⟨last, hl⟩ := hl0
      have hb : lessS last.f.nm e.nm = false := by
        cases hq : lessS last.f.nm e.nm with
        | false => rfl
        | true => exact absurd (.inr ⟨last, hl, hq⟩) hbe
      have hc : lowB (L.map Fm.f) e.nm = true := by
        unfold lowB
        rw [last_map, hl]; simp [hb]
      rw [hc, if_pos rfl]
      exact (readFile_low h e hlt last hl hb).mono fun r Y ⟨hr, hb⟩ => ⟨hr, Below.tou hb _⟩
end Go.Proofs.YtmjflbleobmjdaaGreatDoor
