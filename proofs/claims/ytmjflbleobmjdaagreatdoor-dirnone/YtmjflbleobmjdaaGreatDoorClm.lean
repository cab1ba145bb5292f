/-
  Layer 17: claim: sectors are taken out of those that are free, while a directory is read.
-/
import Derived.Test.YtmjflbleobmjdaaGreatDoorDmm
namespace Go.Proofs.YtmjflbleobmjdaaGreatDoor
set_option linter.unusedVariables false
set_option linter.unusedSimpArgs false
open Go.ChangeShapes Go.WideShapes Go.ChangeAt Go.RowKit
attribute [local go_sem ↓] loadSec_seal storeSec_seal eqlSec_seal zeroSec
attribute [local go_sem] loadSec_run storeSec_run rowAt_at rowAt_old rowAt_drew rowAt_drewN roomSec_new roomAt_old roomAt_drew roomAt_drewN putSec_new putRow_past rowSec_put size_put putRow_drew putRow_drewN alloc_drewN setCell_drewN sec_size

set_option linter.unusedVariables false

/-- What claim leaves. -/
def ClP (B0 n1 x d : Nat) (D : Dk) (lv : Value) (ls : List Int) (L : List Fm) (fv : Value) (r : Option (Nat → Nat)) (e : Ending) (Y : World) : Prop := match r with
  | some u' => ∃ rv', e = .returned (.bool true) ∧ RdX B0 n1 x d D lv ls L u' fv rv' Y
  | none => e = .returned (.bool false)
theorem tou_x {X Y : World} {x : Nat} {v : Value} {k : Nat} (hb : Below X.heap.size X Y) : Tou (fun y => y = x) X (Y.setCell ⟨x, k, none⟩ v) := (Below.tou hb (fun y => y = x)).set ⟨x, k, none⟩ rfl v
theorem OwI.isSl {w : World} {B : Nat} {v : Value} {l : List Int} (h : OwI w B v l) : ∃ a n c, v = .slice a n c := by
  rcases h.cases with ⟨rfl, _⟩ | ⟨g, c, _, rfl, _⟩
  · exact ⟨_, _, _, rfl⟩
  · exact ⟨_, _, _, rfl⟩
set_option maxHeartbeats 4000000 in
theorem claim_any {B0 n1 x d : Nat} {D : Dk} {lv fv rv : Value} {ls : List Int} {L : List Fm} {u : Nat → Nat} {X : World} {A' : Nat → Prop} (h : RdX B0 n1 x d D lv ls L u fv rv X) (sv : Value) (l : List Int) (hs : RowI A' X sv l) (hn : D.n ≤ 1024) :
    Calls Tryz.prog 55 #[.pointer (some ⟨x, 0, none⟩), sv] X fun e Y => ClP B0 n1 x d D lv ls L fv (takeAll D.n 0 1 u l) e Y ∧ Tou (fun y => y = x) X Y := by
  have H := hidD h
  have HW := hidD (without_any rv sv (lst D.n fun i => u i == 0) l X h.free (rise_lst _ _) hs)
  rw [without_take D.n 0 1 (by decide) l u] at HW
  obtain ⟨_, _, _, c3, _⟩ := h.cell
  have hx : x < X.heap.size := Nat.lt_of_lt_of_le h.xn h.big
  have hfz := room_fz h.room (show 3 < 5 by decide)
  have hsome : ∀ Y, Below X.heap.size X Y → Y.cell? ⟨x, 3, none⟩ = some rv ∧ Y.frozen? ⟨x, 3, none⟩ = false := fun Y hb => ⟨(hb.cell (p := ⟨x, 3, none⟩) hx).trans c3, (hb.frozen (p := ⟨x, 3, none⟩) hx).trans hfz⟩
  have HS := hidD hsome
  clear h hs hsome hfz
  cases ht : takeAll D.n 0 1 u l with
  | none =>
    rw [ht] at HW
    clear ht
    go_enter Tryz.func55, Tryz.ntmps55
    go_wp2_with (go_at_call 21; refine HW.out.mono ?_; rintro e w1 ⟨he, hb⟩; obtain rfl := (show e = _ from he); obtain ⟨k1, k2⟩ := HS.out _ hb; have HB := hidD hb; clear hb he)
    go_ret
    exact ⟨rfl, tou_x HB.out⟩
  | some u' =>
    rw [ht] at HW
    clear ht
    go_enter Tryz.func55, Tryz.ntmps55
    go_wp2_with (go_at_call 21; refine HW.out.mono ?_; rintro e w1 ⟨he, hb⟩; obtain ⟨v', rfl, ho⟩ := (show ∃ v', e = _ ∧ _ from he); obtain ⟨a', n', c', rfl⟩ := ho.isSl; obtain ⟨k1, k2⟩ := HS.out _ hb; have HB := hidD hb; have HO := hidD ho; clear hb he ho)
    go_ret
    refine ⟨⟨.slice a' n' c', rfl, ?_⟩, tou_x HB.out⟩
    have hX := H.out.below HB.out
    have hr := HO.out.row (Nat.le_trans (lst_len _ _) (by omega))
    exact hX.setFree (hr.mono fun b hb => ⟨by have := H.out.big; have := H.out.xn; have := H.out.b0; omega, by omega, fun e => by have := (H.out.fs.lt b e).2; omega⟩)
end Go.Proofs.YtmjflbleobmjdaaGreatDoor
