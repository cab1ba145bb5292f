/-
  The law on Exec: its walk.
-/
import Derived.Test.YtkhgeldnlffgjaaDoorExv
import Derived.Test.YtkhgeldnlffgjaaDoorOks
import Derived.Test.YtkhgeldnlffgjaaDoorOpenC
import Derived.Test.YtkhgeldnlffgjaaDoorShn
import Derived.Deep.DeepCutAuto
namespace Go.Proofs.YtkhgeldnlffgjaaDoor
open Go.ChangeShapes Go.WideShapes Go.ChangeAt Go.RowKit
attribute [local go_sem ↓] loadCpu_seal storeCpu_seal loadIn_seal storeIn_seal
attribute [local go_sem] loadCpu_run storeCpu_run loadIn_run storeIn_run rowAt_at rowAt_past rowAt_drew rowAt_drewN roomCpu_new roomIn_new roomAt_old roomAt_drew roomAt_drewN putCpu_new putIn_new Cp.zero_fold In.fold putRow_past rowCpu_put rowIn_put size_put putRow_drew putRow_drewN alloc_drewN setCell_drewN Cp.at16 Cp.at17 Cp.at18 Cp.at19 Cp.at20 Cp.at21 Cp.size Cp.set16 Cp.set17 Cp.set18 Cp.set19 Cp.set20 Cp.set21 In.at0 In.at1 In.at2 In.at3 In.at4 In.at5 In.at6 In.at7 In.size In.set0 In.set1 In.set2 In.set3 In.ne Cp.ne In.set4 In.set5 In.set6 In.set7
attribute [local go_sem ↓] eqlIn_seal neqIn_seal neqCpu_seal
set_option linter.unusedVariables false

/-- What a round reads. -/
def SE (w : World) (c : Cp) (b o : Nat) (g : In) (X : World) : Prop := Keeps w [(w.heap.size, c.cells)] X ∧ X.rangeAt b o g.cells.toList ∧ b < X.heap.size
theorem SE.full {w : World} {c : Cp} {b o : Nat} {g : In} {X : World} (h : SE w c b o g X) : SE w c b o g X ∧ rowAt X w.heap.size = some c.cells ∧ (loadIn ⟨b, o, none⟩).run Tryd.prog X = .ok (.agg g.cells) X :=
  ⟨h, h.1.row (by simp), loadIn_at g h.2.1⟩
theorem SE.call {w : World} {c : Cp} {b o : Nat} {g : In} {X Y : World} (hb : Below X.heap.size X Y) (h : SE w c b o g X) : SE w c b o g Y := ⟨h.1.call hb, range_below hb h.2.2 h.2.1, Nat.lt_of_lt_of_le h.2.2 hb.size⟩
/-- A row of one's own, made in a round. -/
structure Own1 (X : World) (ga : Nat) (d : Cp) : Prop where
  row : rowAt X ga = some d.cells
  lt : ga < X.heap.size
theorem Own1.call {X Y : World} {ga : Nat} {d : Cp} (h : Own1 X ga d) (hb : Below X.heap.size X Y) : Own1 Y ga d := ⟨(rowAt_below hb _ h.lt).trans h.row, Nat.lt_of_lt_of_le h.lt hb.size⟩
theorem Own1.new (X : World) (d : Cp) (t : TypeId) : Own1 (X.alloc (.cells d.cells t)) X.heap.size d := ⟨rowAt_new _ _ _ _, by simp⟩
/-- A row that was there empty when the call was made, and is laid behind it. -/
theorem SE.laid {w : World} {c : Cp} {b o : Nat} {g : In} {X : World} (h : SE w c b o g X) {ga : Nat} (hg : w.heap.size < ga) (hb : ga ≠ b) (d : Cp) : SE w c b o g (putRow X ga d.cells) := by
  refine ⟨⟨below_put h.1.1 ga (by omega) _, fun r hr => ?_⟩, fun j v hv => ?_, by rw [size_put]; exact h.2.2⟩
  · obtain rfl : r = (w.heap.size, c.cells) := by simpa using hr
    refine ⟨(put_row_far X ga _ _ (by show w.heap.size ≠ ga; omega)).trans (h.1.row (by simp)), ?_, by rw [size_put]; exact (h.1.2 (w.heap.size, c.cells) (by simp)).2.2⟩
    have r := h.1.room (b := w.heap.size) (c := c.cells) (by simp)
    show roomAt (putRow X ga d.cells) w.heap.size c.cells.size = true
    unfold roomAt at r ⊢
    rw [putRow_eq, setCells_far ga w.heap.size (by omega)]
    exact r
  · exact (put_cell_far X ga b (o + j) d.cells (fun e => hb e.symm)).trans (h.2.1 j v hv)
theorem SE.below {w : World} {c : Cp} {b o : Nat} {g : In} {X : World} (h : SE w c b o g X) : Below w.heap.size w X := h.1.1
theorem SE.two {w : World} {c : Cp} {b o : Nat} {g : In} {X : World} (h : SE w c b o g X) : rowAt X w.heap.size = some c.cells ∧ (loadIn ⟨b, o, none⟩).run Tryd.prog X = .ok (.agg g.cells) X := h.full.2
theorem cal (X : World) (o : Obj) : Below X.heap.size X (X.alloc o) := (Below.refl _ _).alloc (Nat.le_refl _) o
theorem cdr (X : World) : Below X.heap.size X X.drew := (Below.refl _ _).drew
theorem spare_room {X Y : World} {t : TypeId} (hb : Below (X.alloc (.cells Cp.zero.cells t)).drew.heap.size (X.alloc (.cells Cp.zero.cells t)).drew Y) : roomAt Y X.heap.size 22 = true ∧ X.heap.size < Y.heap.size := by
  have l : X.heap.size < (X.alloc (.cells Cp.zero.cells t)).drew.heap.size := by show X.heap.size < (X.alloc _).heap.size; simp
  refine ⟨(roomAt_below hb _ _ l).trans ?_, Nat.lt_of_lt_of_le l hb.size⟩
  rw [roomAt_drew]
  exact roomCpu_new X Cp.zero t _ rfl
namespace cpuExecs
set_option maxHeartbeats 4000000 in
set_option maxRecDepth 20000 in
theorem walk (c : Cp) (a : Option Addr) (len cap : Nat) (g : Nat → In) (y : Int) (w : World) (hw : Ways w) (hc : c.Ok) (hr : RdI w a len g) (y0 : 0 ≤ y) (y1 : y ≤ 4294967295) : Calls Tryd.prog 7 #[.agg c.cells, .slice a len cap, .int .u32 y] w fun e w' => e = .returned (.bool true) ∧ Below w.heap.size w w' := by
  obtain ⟨hm, hr⟩ := hr
  unfold maxLen at hm
  have HW : Hid (Ways w) := hw
  have HO : Hid c.Ok := hc
  have HC : Hid (∀ k, k < len → ∃ b off, a = some ⟨b, off, none⟩ ∧ b < w.heap.size ∧ w.rangeAt b (off + k * 8) (g k).cells.toList) := by
    intro k hk
    rcases hr with h | ⟨b, off, rfl, hb, h⟩
    · omega
    · exact ⟨b, off, rfl, hb, h k hk⟩
  have HK0 : Hid (Keeps w [(w.heap.size, c.cells)] (w.alloc (.cells c.cells 38))) := (Keeps.refl w).new c.cells 38
  clear hr hw hc
  go_enter Tryd.func7, Tryd.ntmps7
  go_wp2
  go_loopw [7] (fun i X => ∃ k : Nat, k ≤ len ∧ i = .int .i64 k ∧ Keeps w [(w.heap.size, c.cells)] X) (fun i _ => len - (intOf i).toNat)
  case atStart => exact ⟨0, Nat.zero_le _, rfl, HK0.out⟩
  case round =>
    clear HK0
    obtain ⟨k, hk, rfl, hX⟩ := hrel
    have HB : Hid (Keeps w [(w.heap.size, c.cells)] wr) := hX
    by_cases hlt : k < len
    · obtain ⟨b, off, rfl, hbl, hrg⟩ := HC.out k hlt
      have H0 : Hid (SE w c b (off + k * 8) (g k) wr) := ⟨hX, range_below hX.1 hbl hrg, Nat.lt_of_lt_of_le hbl hX.1.size⟩
      have i0 : (0 : Int) ≤ (k : Int) := by omega
      have i1 : (k : Int) < (len : Int) := by omega
      have hn2 := neqCpu_same (c.execD (g k) y) (execD_ok _ HO.out y0 y1)
      clear hX HC hrg
      go_upto_region 4 with fail
      go_cut [8, 9, 10] from 14 to 54 (fun s8 s9 s10 X => ∃ ga, s8 = .pointer (some ⟨ga, 0, none⟩) ∧ s9 = .int .i64 (c.execN (g k)) ∧ s10 = .bool (c.execT (g k)) ∧ SE w c b (off + k * 8) (g k) X ∧ Own1 X ga (c.execD (g k) y))
      case first =>
        have l0 : w.heap.size < wr.heap.size := (H0.out.1.2 (w.heap.size, c.cells) (by simp)).2.2
        have l1 : b < wr.heap.size := H0.out.2.2
        go_region_held3 (fun X => rowAt X w.heap.size = some c.cells ∧ (loadIn ⟨b, off + k * 8, none⟩).run Tryd.prog X = .ok (.agg (g k).cells) X) (first | exact (H0.out.call (cdr _)).two | exact ((H0.out.call (cal _ _)).call (cdr _)).two | exact s1 | exact s2 _ | exact s3 _ | assumption) (first | (go_at_call 16; refine (exec_any c (g k) y _ (HW.out.below (SE.below (by first | exact H0.out.call (cdr _) | exact (H0.out.call (cal _ _)).call (cdr _))) HW.out.big) HO.out y0 y1).mono ?_; rintro e w3 ⟨rfl, hb⟩; have H3 : Hid (SE w c b (off + k * 8) (g k) w3) := (by first | exact (H0.out.call (cdr _)).call hb | exact ((H0.out.call (cal _ _)).call (cdr _)).call hb); have s1 := H3.out.two; have s2 : ∀ o, rowAt (w3.alloc o) w.heap.size = some c.cells ∧ (loadIn ⟨b, off + k * 8, none⟩).run Tryd.prog (w3.alloc o) = .ok (.agg (g k).cells) (w3.alloc o) := (fun o => (H3.out.call (cal _ o)).two); try (have LA : Hid (roomAt w3 wr.heap.size 22 = true ∧ wr.heap.size < w3.heap.size) := spare_room hb; have rA := LA.out.1; have s3 : ∀ d : Cp, rowAt (putRow w3 wr.heap.size d.cells) w.heap.size = some c.cells ∧ (loadIn ⟨b, off + k * 8, none⟩).run Tryd.prog (putRow w3 wr.heap.size d.cells) = .ok (.agg (g k).cells) (putRow w3 wr.heap.size d.cells) := (fun d => (H3.out.laid l0 (by omega) d).two)); clear hb))
        all_goals
          go_wp2
          go_meet
          case rel => first | exact ⟨_, rfl, rfl, rfl, H3.out.call (cal _ _), Own1.new _ _ _⟩ | exact ⟨_, rfl, rfl, rfl, H3.out.laid l0 (by omega) _, ⟨rowCpu_put _ _ _ LA.out.1, by rw [size_put]; exact LA.out.2⟩⟩
      case rest =>
        obtain ⟨ga, rfl, rfl, rfl, hS, hO⟩ := hcut
        have HS : Hid (SE w c b (off + k * 8) (g k) wc) := hS
        have HA : Hid (Own1 wc ga (c.execD (g k) y)) := hO
        clear hS hO H0 HB
        go_upto_region 5 with fail
        go_cut [11, 12, 13] from 14 to 54 (fun s11 s12 s13 X => ∃ gb, s11 = .pointer (some ⟨gb, 0, none⟩) ∧ s12 = .int .i64 (c.execN (g k)) ∧ s13 = .bool (c.execT (g k)) ∧ SE w c b (off + k * 8) (g k) X ∧ Own1 X ga (c.execD (g k) y) ∧ Own1 X gb (c.execD (g k) y))
        case first =>
          have l0 : w.heap.size < wc.heap.size := (HS.out.1.2 (w.heap.size, c.cells) (by simp)).2.2
          have l1 : b < wc.heap.size := HS.out.2.2
          have l2 : ga < wc.heap.size := HA.out.lt
          go_region_held3 (fun X => rowAt X w.heap.size = some c.cells ∧ (loadIn ⟨b, off + k * 8, none⟩).run Tryd.prog X = .ok (.agg (g k).cells) X) (first | exact (HS.out.call (cdr _)).two | exact ((HS.out.call (cal _ _)).call (cdr _)).two | exact s1 | exact s2 _ | exact s3 _ | assumption) (first | (go_at_call 17; refine (rexec_any c (g k) y _ HO.out y0 y1).mono ?_; rintro e w3 ⟨rfl, hb⟩; have H3 : Hid (SE w c b (off + k * 8) (g k) w3) := (by first | exact (HS.out.call (cdr _)).call hb | exact ((HS.out.call (cal _ _)).call (cdr _)).call hb); have O3 : Hid (Own1 w3 ga (c.execD (g k) y)) := (by first | exact (HA.out.call (cdr _)).call hb | exact ((HA.out.call (cal _ _)).call (cdr _)).call hb); have s1 := H3.out.two; have s2 : ∀ o, rowAt (w3.alloc o) w.heap.size = some c.cells ∧ (loadIn ⟨b, off + k * 8, none⟩).run Tryd.prog (w3.alloc o) = .ok (.agg (g k).cells) (w3.alloc o) := (fun o => (H3.out.call (cal _ o)).two); try (have LA : Hid (roomAt w3 wc.heap.size 22 = true ∧ wc.heap.size < w3.heap.size) := spare_room hb; have rA := LA.out.1; have s3 : ∀ d : Cp, rowAt (putRow w3 wc.heap.size d.cells) w.heap.size = some c.cells ∧ (loadIn ⟨b, off + k * 8, none⟩).run Tryd.prog (putRow w3 wc.heap.size d.cells) = .ok (.agg (g k).cells) (putRow w3 wc.heap.size d.cells) := (fun d => (H3.out.laid l0 (by omega) d).two)); clear hb))
          all_goals
            go_wp2
            go_meet
            case rel => first | exact ⟨_, rfl, rfl, rfl, H3.out.call (cal _ _), O3.out.call (cal _ _), Own1.new _ _ _⟩ | exact ⟨_, rfl, rfl, rfl, H3.out.laid l0 (by omega) _, ⟨(put_row_far _ _ _ _ (by omega)).trans O3.out.row, by rw [size_put]; exact O3.out.lt⟩, ⟨rowCpu_put _ _ _ LA.out.1, by rw [size_put]; exact LA.out.2⟩⟩
        case rest =>
          obtain ⟨gb, rfl, rfl, rfl, hS, hA, hO⟩ := hcut
          have HE : Hid (SE w c b (off + k * 8) (g k) wc) := hS
          have r1 := hA.row
          have r2 := hO.row
          generalize c.execT (g k) = tB at *
          generalize c.execN (g k) = nB at *
          cases tB
          all_goals
            clear hS HS HA
            go_wp2
            go_roundw
            case rel => exact ⟨k + 1, by omega, by go_num, HE.out.1⟩
            case measure => simp [intOf]; omega
    · have i1 : ¬ (k : Int) < (len : Int) := by omega
      clear hX HC
      go_wp2_with (go_at_call 11; refine (cshown_any _ (HW.out.below HB.out.1 HW.out.big)).mono ?_; rintro e w1 ⟨rfl, hb⟩)
      go_ret
      exact ⟨rfl, HB.out.1.trans (hb.mono HB.out.1.size)⟩
end cpuExecs
end Go.Proofs.YtkhgeldnlffgjaaDoor
