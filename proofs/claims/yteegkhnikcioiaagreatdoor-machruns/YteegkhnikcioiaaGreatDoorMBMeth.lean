/-
  The devices of a new bus.
  A new bus.
  The document's examples at the head of the laws.
  What the law on the line needs: numbers that are picked, two rows beside a bus.
  The writes of a disk, in order.
-/
import Derived.Test.YteegkhnikcioiaaGreatDoorMMem
import Derived.Test.YteegkhnikcioiaaGreatDoorMDo
namespace Go.Proofs.YteegkhnikcioiaaGreatDoor
open Go.ChangeShapes Go.WideShapes Go.ChangeAt Go.RowKit
attribute [local go_sem ↓] loadSec_seal storeSec_seal eqlSec_seal zeroSec
attribute [local go_sem] loadSec_run storeSec_run rowAt_at rowAt_old rowAt_drew rowAt_drewN roomSec_new roomAt_old roomAt_drew roomAt_drewN putSec_new putRow_past rowSec_put size_put putRow_drew putRow_drewN alloc_drewN setCell_drewN sec_size

set_option linter.unusedVariables false

set_option maxHeartbeats 2000000 in
theorem wired_any (b : Nat) (w : World) : Calls Tryz.prog 57 #[.pointer (some ⟨b, 0, none⟩)] w fun e w' => e = .returned (.slice (some ⟨w.heap.size + 1, 0, none⟩) 7 7) ∧ w' = (w.alloc (.cells #[.pointer (some ⟨b, 0, none⟩)] 87)).alloc (.cells (devs b w.heap.size) 138) := by
  have hmf : ∀ (fn : Fn) (first cap : Array Value) (w : World), (Instr.makeFunc fn first cap).run Tryz.prog w = .ok (.func fn first cap) w := fun _ _ _ _ => rfl
  go_enter Tryz.func57, Tryz.ntmps57
  go_wp2
  go_ret
  exact ⟨rfl, rfl⟩
end Go.Proofs.YteegkhnikcioiaaGreatDoor

namespace Go.Proofs.YteegkhnikcioiaaGreatDoor
open Go.ChangeShapes Go.WideShapes Go.ChangeAt Go.RowKit
attribute [local go_sem ↓] loadSec_seal storeSec_seal eqlSec_seal zeroSec
attribute [local go_sem] loadSec_run storeSec_run rowAt_at rowAt_old rowAt_drew rowAt_drewN roomSec_new roomAt_old roomAt_drew roomAt_drewN putSec_new putRow_past rowSec_put size_put putRow_drew putRow_drewN alloc_drewN setCell_drewN sec_size

set_option linter.unusedVariables false

/-- A row of words that may be read. -/
def RdW (w : World) (a : Option Addr) (len : Nat) (f : Nat → Int) : Prop :=
  len ≤ maxLen ∧ (len = 0 ∨ ∃ b off, a = some ⟨b, off, none⟩ ∧ ∀ i, i < len → w.cell? ⟨b, off + i, none⟩ = some (.int .u32 (f i)) ∧ 0 ≤ f i ∧ f i ≤ 4294967295)
theorem RdW.same {w w' : World} {a : Option Addr} {len : Nat} {f : Nat → Int} (h : RdW w a len f) (hb : ∀ x, inB a x → w'.heap[x]? = w.heap[x]?) : RdW w' a len f :=
  ⟨h.1, h.2.imp id fun ⟨b, off, ha, hc⟩ => ⟨b, off, ha, fun i hi => ⟨(World.cell?_of_block (hb b ⟨_, ha, rfl⟩)).trans (hc i hi).1, (hc i hi).2⟩⟩⟩
theorem RdW.at {w : World} {a : Option Addr} {len : Nat} {f : Nat → Int} (h : RdW w a len f) {k : Nat} (hk : k < len) : ∃ b off, a = some ⟨b, off, none⟩ ∧ w.cell? ⟨b, off + k, none⟩ = some (.int .u32 (f k)) ∧ 0 ≤ f k ∧ f k ≤ 4294967295 := by
  rcases h.2 with e | ⟨b, off, ha, hc⟩
  · omega
  · exact ⟨b, off, ha, hc k hk⟩
theorem RdW.lt {w : World} {a : Option Addr} {len : Nat} {f : Nat → Int} (h : RdW w a len f) (h0 : 0 < len) : ∀ x, inB a x → x < w.heap.size := by
  rintro x ⟨p, hp, e⟩
  obtain ⟨b, off, ha, hc, _⟩ := h.at h0
  have := World.block_lt_of_cell? _ _ hc
  rw [ha] at hp
  cases hp
  subst e
  exact this
def initM (f : Nat → Int) (len i : Nat) : Int := if i / 4 < len then byteOf (f (i / 4)) (i % 4) else 0
theorem init_byte (f : Nat → Int) (len : Nat) : ∀ i, 0 ≤ initM f len i ∧ initM f len i ≤ 255 := fun i => by
  unfold initM; split
  · exact byteOf_bd _ _
  · exact ⟨by decide, by decide⟩
theorem init0 (f : Nat → Int) : ∀ i, initM f 0 i = 0 := fun i => if_neg (by omega)
theorem init_next (f : Nat → Int) (k : Nat) (hk : k < 262144) (i : Nat) : putL 1048576 (initM f k) (4 * (k : Int)) (f k) i = initM f (k + 1) i := by
  have hf : fits 1048576 (4 * (k : Int)) = true := by unfold fits; exact decide_eq_true (by omega)
  unfold putL
  rw [if_pos hf, show (4 * (k : Int)).toNat = 4 * k by omega]
  unfold partL initM
  by_cases h : 4 * k ≤ i ∧ i < 4 * k + 4
  · rw [if_pos h, if_pos (by omega), show i / 4 = k by omega, show i - 4 * k = i % 4 by omega]
  · rw [if_neg h]
    by_cases h2 : i / 4 < k
    · rw [if_pos h2, if_pos (by omega)]
    · rw [if_neg h2, if_neg (by omega)]
theorem new_nil (v : Value) (w : World) : Calls Tryz.prog 44 #[v, .pointer none] w fun e w' => e = .returned (.tuple #[.pointer none, .int .i64 1]) ∧ w' = w := by
  go_enter Tryz.func44, Tryz.ntmps44
  go_wp2
  go_ret2
  exact ⟨rfl, rfl⟩
theorem new_many (a : Option Addr) (len cap d : Nat) (w : World) (hl : 262144 < len) : Calls Tryz.prog 44 #[.slice a len cap, .pointer (some ⟨d, 0, none⟩)] w fun e w' => e = .returned (.tuple #[.pointer none, .int .i64 2]) ∧ w' = w := by
  have h1 : (262144 : Int) < (len : Int) := by omega
  go_enter Tryz.func44, Tryz.ntmps44
  go_wp2
  go_ret2
  exact ⟨rfl, rfl⟩
def Lg.new (f : Nat → Int) (len : Nat) (D : Dk) : Lg := { M := initM f len, I := [], O := [], tk := 0, sc := 0, ad := 0, cm := 0, n := D.n, S := D.S, m := D.m }
def Ph.new (mb db vb cb : Nat) (D : Dk) : Ph := { mb := mb, db := db, vb := vb, cb := cb, ia := none, ic := 0, oa := none, oc := 0, D := D }
def bus0 (mb db : Nat) : Array Value := #[.slice (some ⟨mb, 0, none⟩) 1048576 1048576, .pointer (some ⟨db, 0, none⟩), .slice none 0 0, .slice none 0 0, .slice none 0 0, .int .u32 0, .int .u32 0, .int .u32 0, .int .u32 0]
/-- What a new bus is made of. -/
theorem new_end {w w2 X : World} {db : Nat} {D : Dk} {f : Nat → Int} {len b : Nat} (hD : Rep w db D) (hX : Tou (fun x => x = w.heap.size) w2 X) (h2 : Below w.heap.size w w2) (hbb : b < w2.heap.size) (hbw : w.heap.size < b) (hrow : rowAt w2 b = some (bus0 w.heap.size db)) (hroom : roomAt w2 b 9 = true) (hm : BRow X w.heap.size 1048576 (initM f len)) :
    Bus ((((X.alloc (.cells #[.pointer (some ⟨b, 0, none⟩)] 87)).alloc (.cells (devs b X.heap.size) 138)).setCell ⟨b, 2, none⟩ (.slice (some ⟨X.heap.size + 1, 0, none⟩) 7 7))) b (Ph.new w.heap.size db (X.heap.size + 1) X.heap.size D) (Lg.new f len D) ∧
      Below w.heap.size w ((((X.alloc (.cells #[.pointer (some ⟨b, 0, none⟩)] 87)).alloc (.cells (devs b X.heap.size) 138)).setCell ⟨b, 2, none⟩ (.slice (some ⟨X.heap.size + 1, 0, none⟩) 7 7))) := by
  have sX := hX.size
  have s2 := h2.size
  have hbX : Below w.heap.size w X := h2.trans (hX.below s2 fun x hx => by omega)
  have hY : Below X.heap.size X ((X.alloc (.cells #[.pointer (some ⟨b, 0, none⟩)] 87)).alloc (.cells (devs b X.heap.size) 138)) := ((Below.refl _ X).alloc (Nat.le_refl _) _).alloc (by simp) _
  have hYs : ((X.alloc (.cells #[.pointer (some ⟨b, 0, none⟩)] 87)).alloc (.cells (devs b X.heap.size) 138)).heap.size = X.heap.size + 2 := by simp
  have hWY : Below w.heap.size w ((X.alloc (.cells #[.pointer (some ⟨b, 0, none⟩)] 87)).alloc (.cells (devs b X.heap.size) 138)) := hbX.trans (hY.mono hbX.size)
  refine ⟨?_, hWY.setCell (Nat.le_of_lt hbw) _⟩
  have hd : ∀ x, D.mut db x ∨ D.fix x → x < w.heap.size := hD.lt
  have hb1 : ((X.alloc (.cells #[.pointer (some ⟨b, 0, none⟩)] 87)).alloc (.cells (devs b X.heap.size) 138)).heap[b]? = w2.heap[b]? := (hY.block b (by omega)).trans (hX.block b hbb (by omega))
  have hc : Core ((X.alloc (.cells #[.pointer (some ⟨b, 0, none⟩)] 87)).alloc (.cells (devs b X.heap.size) 138)) b (Ph.new w.heap.size db (X.heap.size + 1) X.heap.size D) (Lg.new f len D) := {
    mem := hm.same (hY.block _ (by show w.heap.size < X.heap.size; omega))
    byte := fun i _ => init_byte f len i
    dsk := hD.below hWY
    dn := rfl
    dS := rfl
    dm := rfl
    dev := by
      have := rowAt_new (X.alloc (.cells #[.pointer (some ⟨b, 0, none⟩)] 87)) (devs b X.heap.size) 138 (0, 0)
      have e : (X.alloc (.cells #[.pointer (some ⟨b, 0, none⟩)] 87)).heap.size = X.heap.size + 1 := by simp
      rw [e] at this
      exact this
    cap := by
      show rowAt _ X.heap.size = _
      rw [rowAt_old _ _ _ (by simp)]; exact rowAt_new _ _ _ _
    inp := ⟨.inl ⟨rfl, rfl, rfl⟩, fun x hx => by cases hx⟩
    out := ⟨.inl ⟨rfl, rfl, rfl⟩, fun x hx => by cases hx⟩
    il := Nat.zero_le _
    ol := Nat.zero_le _
    tk := u32J
    sc := u32J
    ad := u32J
    cm := u32J
    tag := ⟨fun x => if x < w.heap.size then 6 else if x = w.heap.size then 1 else if x = b then 0 else if x = X.heap.size then 3 else 2, {
      b := (if_neg (by omega)).trans ((if_neg (by omega)).trans (if_pos rfl))
      mb := (if_neg (Nat.lt_irrefl w.heap.size)).trans (if_pos rfl)
      vb := (if_neg (c := X.heap.size + 1 < w.heap.size) (by omega)).trans ((if_neg (c := X.heap.size + 1 = w.heap.size) (by omega)).trans ((if_neg (c := X.heap.size + 1 = b) (by omega)).trans (if_neg (c := X.heap.size + 1 = X.heap.size) (by omega))))
      cb := (if_neg (c := X.heap.size < w.heap.size) (by omega)).trans ((if_neg (c := X.heap.size = w.heap.size) (by omega)).trans ((if_neg (c := X.heap.size = b) (by omega)).trans (if_pos rfl)))
      ia := fun x ⟨p, hp, _⟩ => by cases hp
      oa := fun x ⟨p, hp, _⟩ => by cases hp
      D := fun x hx => if_pos (hd x hx) }⟩
    lt := fun x hx => by
      rw [hYs]
      rcases hx with e | e | e | e | ⟨p, hp, _⟩ | ⟨p, hp, _⟩ | e
      · omega
      · have e : x = w.heap.size := e; omega
      · have e : x = X.heap.size + 1 := e; omega
      · have e : x = X.heap.size := e; omega
      · cases hp
      · cases hp
      · have := hd x e; omega }
  exact hc.put ((rowAt_same hb1).trans hrow) ((roomAt_same hb1).trans hroom) 2 _ rfl
set_option maxHeartbeats 2000000 in
theorem new_bus (a : Option Addr) (len cap db : Nat) (f : Nat → Int) (D : Dk) (w : World) (hD : Rep w db D) (hl : len ≤ 262144) (hr : RdW w a len f) : Calls Tryz.prog 44 #[.slice a len cap, .pointer (some ⟨db, 0, none⟩)] w fun e w' => ∃ b P, e = .returned (.tuple #[.pointer (some ⟨b, 0, none⟩), .int .i64 0]) ∧ Bus w' b P (Lg.new f len D) ∧ P.db = db ∧ P.D = D ∧ (∀ x, P.all b x → (D.mut db x ∨ D.fix x) ∨ w.heap.size ≤ x) ∧ Below w.heap.size w w' := by
  obtain ⟨i0, hi, hz0, hz1, hz2⟩ := info_parts info5
  have h1 : ¬ (262144 : Int) < (len : Int) := by omega
  have HR : Hid (RdW w a len f) := hr
  have HD : Hid (Rep w db D) := hD
  clear hr hD
  go_enter Tryz.func44, Tryz.ntmps44
  go_wp2_with (at_make; refine wpList_make_full _ rfl _ _ 49 rfl w.heap.size 5 i0 (.int .u8 0) 1 Tryz.underlying49 hi hz0 hz1 .i64 .i64 _ _ 1048576 rfl rfl rfl rfl (by rw [hz2]; decide) (by decide) (Nat.le_refl _) ?_; intro w2 hown2 hgrow2; have HM : Hid (BRow w2 w.heap.size 1048576 (fun _ => 0)) := BRow.made hown2; have HB : Hid (Below w.heap.size w w2) := (Below.refl _ w).grown hgrow2 (Nat.le_refl _) (fun k hk => by cases hk); clear hown2 hgrow2)
  have HB0 : Hid (Below w.heap.size w (w2.alloc (.cells (bus0 w.heap.size db) 112))) := HB.out.alloc HB.out.size _
  have HM0 : Hid (BRow (w2.alloc (.cells (bus0 w.heap.size db) 112)) w.heap.size 1048576 (initM f 0)) := (HM.out.same (Below.heap_alloc _ _ _ HM.out.lt)).ext fun i _ => (init0 f i).symm
  have hbw : w.heap.size < w2.heap.size := HM.out.lt
  go_loopw [20] (fun i X => ∃ k : Nat, k ≤ len ∧ i = .int .i64 k ∧ BRow X w.heap.size 1048576 (initM f k) ∧ Tou (fun x => x = w.heap.size) (w2.alloc (.cells (bus0 w.heap.size db) 112)) X) (fun i _ => len - (intOf i).toNat)
  case atStart => exact ⟨0, Nat.zero_le _, rfl, HM0.out, Tou.refl _ _⟩
  case round =>
    obtain ⟨k, hk, rfl, hM, hT⟩ := hrel
    have HM1 : Hid (BRow wr w.heap.size 1048576 (initM f k)) := hM
    have HT1 : Hid (Tou (fun x => x = w.heap.size) (w2.alloc (.cells (bus0 w.heap.size db) 112)) wr) := hT
    clear hM hT HM HM0
    by_cases hlt : k < len
    · obtain ⟨g, off, rfl, hc, f0, f1⟩ := HR.out.at hlt
      have hgl := World.block_lt_of_cell? _ _ hc
      simp only [] at hgl
      have hc' : wr.cell? ⟨g, off + k, none⟩ = some (.int .u32 (f k)) := (World.cell?_of_block ((HT1.out.block g (by simp; omega) (by omega)).trans (HB0.out.block g hgl))).trans hc
      have hb' : wr.cell? ⟨w2.heap.size, 0, none⟩ = some (.slice (some ⟨w.heap.size, 0, none⟩) 1048576 1048576) := (World.cell?_of_block (HT1.out.block w2.heap.size (by simp) (by omega))).trans (rowAt_cell (rowAt_new _ _ _ _) 0)
      have j0 : (0 : Int) ≤ (k : Int) := by omega
      have j1 : (k : Int) < (len : Int) := by omega
      clear hc
      go_wp2_with (go_at_call 56; refine (put_any w.heap.size 1048576 _ (initM f k) _ _ _ (by decide) HM1.out).mono ?_; rintro e w3 ⟨rfl, hr3, ht3, hz3⟩)
      go_roundw
      case rel =>
        refine ⟨k + 1, by omega, by go_num, hr3.ext fun i _ => ?_, HT1.out.trans ht3 fun x _ hx => hx⟩
        have := init_next f k (by omega) i
        rw [← this, Int.mul_comm]
      case measure => simp [intOf]; omega
    · obtain rfl : k = len := by omega
      have hsz := HT1.out.size
      have hsz : w2.heap.size < wr.heap.size := by have e : w2.heap.size + 1 ≤ wr.heap.size := by { simpa using hsz }; omega
      have hrow : rowAt (w2.alloc (.cells (bus0 w.heap.size db) 112)) w2.heap.size = some (bus0 w.heap.size db) := rowAt_new _ _ _ _
      have hroom : roomAt (w2.alloc (.cells (bus0 w.heap.size db) 112)) w2.heap.size 9 = true := roomAt_new _ _ _ _ _ rfl rfl
      have HE : Hid _ := new_end (f := f) HD.out HT1.out HB0.out (by simp) hbw hrow hroom HM1.out
      have hblk := HT1.out.block w2.heap.size (by simp) (by omega)
      have q2 : wr.cell? ⟨w2.heap.size, 2, none⟩ = some (.slice none 0 0) := (rowAt_cell ((rowAt_same hblk).trans hrow) 2).trans rfl
      have q3 : wr.frozen? ⟨w2.heap.size, 2, none⟩ = false := by
        have := (room_there ((roomAt_same hblk).trans hroom) 2 (by omega)).2
        simpa using this
      have q4 : ∀ o o' : Obj, ((wr.alloc o).alloc o').cell? ⟨w2.heap.size, 2, none⟩ = some (.slice none 0 0) := fun o o' => by rw [World.cell?_alloc_old _ _ _ (by simp; omega), World.cell?_alloc_old _ _ _ (by simp; omega)]; exact q2
      have q5 : ∀ o o' : Obj, ((wr.alloc o).alloc o').frozen? ⟨w2.heap.size, 2, none⟩ = false := fun o o' => by rw [World.frozen?_alloc_old _ _ _ (by simp; omega), World.frozen?_alloc_old _ _ _ (by simp; omega)]; exact q3
      clear hrow hroom hblk q2 q3
      go_wp2_with (go_at_call 57; refine (wired_any _ _).mono ?_; rintro e w3 ⟨rfl, hw⟩; obtain rfl := hw.symm)
      go_ret2
      have HE := HE.out
      rw [World.setCell_alloc_past _ _ _ _ (by simp; omega), World.setCell_alloc_past _ _ _ _ hsz] at HE
      refine ⟨w2.heap.size, _, rfl, HE.1, rfl, rfl, ?_, HE.2⟩
      rintro x (e | e | e | e | ⟨p, hp, _⟩ | ⟨p, hp, _⟩ | e)
      · right; omega
      · right; exact Nat.le_of_eq (show x = w.heap.size from e).symm
      · right; have e : x = wr.heap.size + 1 := e; omega
      · right; have e : x = wr.heap.size := e; omega
      · cases hp
      · cases hp
      · exact .inl e
end Go.Proofs.YteegkhnikcioiaaGreatDoor

namespace Go.Proofs.YteegkhnikcioiaaGreatDoor
open Go.ChangeShapes Go.WideShapes Go.ChangeAt Go.RowKit
attribute [local go_sem ↓] loadSec_seal storeSec_seal eqlSec_seal zeroSec
attribute [local go_sem] loadSec_run storeSec_run rowAt_at rowAt_old rowAt_drew rowAt_drewN roomSec_new roomAt_old roomAt_drew roomAt_drewN putSec_new putRow_past rowSec_put size_put putRow_drew putRow_drewN alloc_drewN setCell_drewN sec_size

set_option linter.unusedVariables false

def twoF (i : Nat) : Int := if i = 0 then 1 else 258
theorem two_rd (w : World) (k : Nat) (hk : k = w.heap.size) : RdW (w.alloc (.cells #[.int .u32 1, .int .u32 258] 30)) (some ⟨k, 0, none⟩) 2 twoF := by
  subst hk
  refine ⟨by decide, .inr ⟨_, 0, rfl, fun i hi => ?_⟩⟩
  have : i = 0 ∨ i = 1 := by omega
  rcases this with rfl | rfl
  · exact ⟨by simp [twoF], by decide, by decide⟩
  · exact ⟨by simp [twoF], by decide, by decide⟩
theorem sh1 (D : Dk) : (Lg.new twoF 2 D).step 2 5 0 = ((1, 0), Lg.new twoF 2 D) := rfl
theorem sh2 (D : Dk) : (Lg.new twoF 2 D).step 1 2 0 = ((0, 1), Lg.new twoF 2 D) := rfl
theorem sh3 (D : Dk) : (Lg.new twoF 2 D).step 1 4294967236 0 = ((0, 2), Lg.new twoF 2 D) := rfl
theorem sh4 (D : Dk) : (Lg.new twoF 2 D).step 1 4294967256 0 = (((D.n : Int), 0), Lg.new twoF 2 D) := rfl
theorem do_is (b : Nat) (P : Ph) (L : Lg) (k a v : Int) (w : World) (h : Bus w b P L) {r q : Int} {L' : Lg} (he : L.step k a v = ((r, q), L')) (a0 : 0 ≤ a) (a1 : a ≤ 4294967295) (v0 : 0 ≤ v) (v1 : v ≤ 4294967295) : Calls Tryz.prog 67 #[.pointer (some ⟨b, 0, none⟩), .agg #[.int .i64 k, .int .u32 a, .int .u32 v]] w fun e w' => e = .returned (.tuple #[.int .u32 r, .int .i64 q]) ∧ ∃ P', Stp w b P w' P' L' := by
  have := do_any b P L k a v w h a0 a1 v0 v1
  rw [he] at this
  exact this
/-- A bus of the call's own, as the world goes on. -/
structure Own (w : World) (b : Nat) (P : Ph) (L : Lg) (X : World) : Prop where
  bus : Bus X b P L
  all : ∀ x, P.all b x → w.heap.size ≤ x
  below : Below w.heap.size w X
theorem Own.step {w X Y : World} {b : Nat} {P P' : Ph} {L L' : Lg} (h : Own w b P L X) (hs : Stp X b P Y P' L') : Own w b P' L' Y :=
  ⟨hs.bus, fun x hx => (hs.new x hx).elim (h.all x) fun e => Nat.le_trans h.below.size e, h.below.trans (hs.tou.below h.below.size h.all)⟩
theorem Own.next {w X Y : World} {b : Nat} {P : Ph} {L : Lg} (h : Own w b P L X) (hb : Below X.heap.size X Y) : Own w b P L Y := h.step (Stp.below h.bus hb)
/-- A new bus over a new disk. -/
theorem Own.begin {w w1 w1' w2 : World} {b db : Nat} {P : Ph} {D : Dk} {L : Lg} (hfr : D.fresh db w.heap.size) (hb1 : Below w.heap.size w w1) (ha : Below w1.heap.size w1 w1') (hB : Bus w2 b P L) (hall : ∀ x, P.all b x → (D.mut db x ∨ D.fix x) ∨ w1'.heap.size ≤ x) (hb2 : Below w1'.heap.size w1' w2) : Own w b P L w2 :=
  ⟨hB, fun x hx => (hall x hx).elim (hfr x) fun e => Nat.le_trans (Nat.le_trans hb1.size ha.size) e, (hb1.trans (ha.mono hb1.size)).trans (hb2.mono (Nat.le_trans hb1.size ha.size))⟩
theorem eq_nil (g : Nat) (w : World) : (binOp .eql 87 (.pointer (some ⟨g, 0, none⟩)) (.pointer none)).run Tryz.prog w = .ok (.bool false) w := by simp [go_sem]
end Go.Proofs.YteegkhnikcioiaaGreatDoor

namespace Go.Proofs.YteegkhnikcioiaaGreatDoor
open Go.ChangeShapes Go.WideShapes Go.ChangeAt Go.RowKit
attribute [local go_sem ↓] loadSec_seal storeSec_seal eqlSec_seal zeroSec
attribute [local go_sem] loadSec_run storeSec_run rowAt_at rowAt_old rowAt_drew rowAt_drewN roomSec_new roomAt_old roomAt_drew roomAt_drewN putSec_new putRow_past rowSec_put size_put putRow_drew putRow_drewN alloc_drewN setCell_drewN sec_size

set_option linter.unusedVariables false

def pickI (c n : Int) : Int := if c < 0 then -(c + 1) % n else c % n
theorem pickI_bd (c n : Int) (hn : 0 < n) : 0 ≤ pickI c n ∧ pickI c n < n := by
  unfold pickI; split
  · exact ⟨Int.emod_nonneg _ (by omega), Int.emod_lt_of_pos _ hn⟩
  · exact ⟨Int.emod_nonneg _ (by omega), Int.emod_lt_of_pos _ hn⟩
theorem isW_no {a : Int} (h : 1048576 ≤ a) : isW a = false := by unfold isW; exact decide_eq_false (by omega)
theorem step_in_none (L : Lg) (v : Int) (h : L.I = []) : L.step 1 4294967236 v = ((0, 2), L) := by
  have e : L.load 4294967236 = ((0, 2), L) := by
    unfold Lg.load; rw [isW_no (by decide), if_neg (by decide)]
    show L.dev 1 = _
    unfold Lg.dev; rw [h]; rfl
  unfold Lg.step; rw [if_neg (by decide), if_pos rfl, e]
theorem step_in_some (L : Lg) (v x : Int) (r : List Int) (h : L.I = x :: r) : L.step 1 4294967236 v = ((x, 0), { L with I := r }) := by
  have e : L.load 4294967236 = ((x, 0), { L with I := r }) := by
    unfold Lg.load; rw [isW_no (by decide), if_neg (by decide)]
    show L.dev 1 = _
    unfold Lg.dev; rw [h]; rfl
  unfold Lg.step; rw [if_neg (by decide), if_pos rfl, e]
theorem step_out (L : Lg) (v : Int) : L.step 3 4294967236 v = ((0, 0), if L.O.length < 65536 then { L with O := L.O ++ [v % 256] } else L) := by
  have e : L.store 4294967236 v = (0, if L.O.length < 65536 then { L with O := L.O ++ [v % 256] } else L) := by
    unfold Lg.store; rw [isW_no (by decide), if_neg (by decide)]
    rfl
  unfold Lg.step; rw [if_neg (by decide), if_neg (by decide), if_neg (by decide), if_pos rfl, e]
/-- A bus of the call's own, and two rows of bytes of its own, all apart. -/
structure LR (w : World) (b : Nat) (P : Ph) (L : Lg) (X : World) (F U : List Int) (fa : Option Addr) (fc : Nat) (pa : Option Addr) (pc : Nat) : Prop where
  own : Own w b P L X
  fed : SRow X fa fc F
  put : SRow X pa pc U
  f0 : ∀ x, inB fa x → w.heap.size ≤ x ∧ x < X.heap.size ∧ ¬ P.all b x ∧ ¬ inB pa x
  p0 : ∀ x, inB pa x → w.heap.size ≤ x ∧ x < X.heap.size ∧ ¬ P.all b x
theorem LR.step {w : World} {b : Nat} {P P' : Ph} {L L' : Lg} {X Y : World} {F U : List Int} {fa : Option Addr} {fc : Nat} {pa : Option Addr} {pc : Nat} (h : LR w b P L X F U fa fc pa pc) (hs : Stp X b P Y P' L') : LR w b P' L' Y F U fa fc pa pc :=
  ⟨h.own.step hs, h.fed.same fun x hx => hs.tou.block x (h.f0 x hx).2.1 (h.f0 x hx).2.2.1, h.put.same fun x hx => hs.tou.block x (h.p0 x hx).2.1 (h.p0 x hx).2.2,
    fun x hx => ⟨(h.f0 x hx).1, Nat.lt_of_lt_of_le (h.f0 x hx).2.1 hs.tou.size, fun e => (hs.new x e).elim (h.f0 x hx).2.2.1 fun e => by have := (h.f0 x hx).2.1; omega, (h.f0 x hx).2.2.2⟩,
    fun x hx => ⟨(h.p0 x hx).1, Nat.lt_of_lt_of_le (h.p0 x hx).2.1 hs.tou.size, fun e => (hs.new x e).elim (h.p0 x hx).2.2 fun e => by have := (h.p0 x hx).2.1; omega⟩⟩
theorem LR.next {w : World} {b : Nat} {P : Ph} {L : Lg} {X Y : World} {F U : List Int} {fa : Option Addr} {fc : Nat} {pa : Option Addr} {pc : Nat} (h : LR w b P L X F U fa fc pa pc) (hb : Below X.heap.size X Y) : LR w b P L Y F U fa fc pa pc := h.step (Stp.below h.own.bus hb)
theorem Own.tou {w : World} {b : Nat} {P : Ph} {L : Lg} {X Y : World} {M : Nat → Prop} (h : Own w b P L X) (ht : Tou M X Y) (hM : ∀ x, M x → w.heap.size ≤ x ∧ ¬ P.all b x) : Own w b P L Y :=
  ⟨h.bus.tou ht fun x hx => (hM x hx).2, h.all, h.below.trans (ht.below h.below.size fun x hx => (hM x hx).1)⟩
theorem LR.onFed {w : World} {b : Nat} {P : Ph} {L : Lg} {X Y : World} {F U F' : List Int} {fa fa' : Option Addr} {fc fc' : Nat} {pa : Option Addr} {pc : Nat} (h : LR w b P L X F U fa fc pa pc) (hS : SRow Y fa' fc' F') (ht : Tou (inB fa) X Y) (ha : ∀ x, inB fa' x → inB fa x ∨ X.heap.size ≤ x) (hlt : ∀ x, inB fa' x → x < Y.heap.size) : LR w b P L Y F' U fa' fc' pa pc :=
  ⟨h.own.tou ht fun x hx => ⟨(h.f0 x hx).1, (h.f0 x hx).2.2.1⟩, hS, h.put.same fun x hx => ht.block x (h.p0 x hx).2.1 fun e => (h.f0 x e).2.2.2 hx,
    fun x hx => by
      rcases ha x hx with e | e
      · exact ⟨(h.f0 x e).1, hlt x hx, (h.f0 x e).2.2.1, (h.f0 x e).2.2.2⟩
      · exact ⟨Nat.le_trans h.own.below.size e, hlt x hx, fun e2 => by have := h.own.bus.lt x e2; omega, fun e2 => by have := (h.p0 x e2).2.1; omega⟩,
    fun x hx => ⟨(h.p0 x hx).1, Nat.lt_of_lt_of_le (h.p0 x hx).2.1 ht.size, (h.p0 x hx).2.2⟩⟩
theorem LR.onPut {w : World} {b : Nat} {P : Ph} {L : Lg} {X Y : World} {F U U' : List Int} {fa : Option Addr} {fc : Nat} {pa pa' : Option Addr} {pc pc' : Nat} (h : LR w b P L X F U fa fc pa pc) (hS : SRow Y pa' pc' U') (ht : Tou (inB pa) X Y) (ha : ∀ x, inB pa' x → inB pa x ∨ X.heap.size ≤ x) (hlt : ∀ x, inB pa' x → x < Y.heap.size) : LR w b P L Y F U' fa fc pa' pc' :=
  ⟨h.own.tou ht fun x hx => ⟨(h.p0 x hx).1, (h.p0 x hx).2.2⟩, h.fed.same fun x hx => ht.block x (h.f0 x hx).2.1 fun e => (h.f0 x hx).2.2.2 e, hS,
    fun x hx => ⟨(h.f0 x hx).1, Nat.lt_of_lt_of_le (h.f0 x hx).2.1 ht.size, (h.f0 x hx).2.2.1, fun e => by
      rcases ha x e with e2 | e2
      · exact (h.f0 x hx).2.2.2 e2
      · have := (h.f0 x hx).2.1; omega⟩,
    fun x hx => by
      rcases ha x hx with e | e
      · exact ⟨(h.p0 x e).1, hlt x hx, (h.p0 x e).2.2⟩
      · exact ⟨Nat.le_trans h.own.below.size e, hlt x hx, fun e2 => by have := h.own.bus.lt x e2; omega⟩⟩
/-- As a loop's head has it. -/
structure LH (w : World) (b : Nat) (X : World) (F U : List Int) (p : Nat) (fa : Option Addr) (fc : Nat) (pa : Option Addr) (pc : Nat) : Prop where
  ex : ∃ P L, LR w b P L X F U fa fc pa pc ∧ L.I = F.drop p ∧ L.O = U
  le : p ≤ F.length
  len : F.length ≤ p + 65536
  ul : U.length ≤ 65536
/-- A row of texts. -/
def RdS (w : World) (a : Option Addr) (len : Nat) (f : Nat → ByteArray) : Prop :=
  len ≤ 8796093022207 ∧ (len = 0 ∨ ∃ b off, a = some ⟨b, off, none⟩ ∧ ∀ i, i < len → w.cell? ⟨b, off + i, none⟩ = some (.string (f i)) ∧ (f i).size ≤ maxLen)
/-- A row of numbers. -/
def RdI (w : World) (a : Option Addr) (len : Nat) (f : Nat → Int) : Prop :=
  len ≤ maxLen ∧ (len = 0 ∨ ∃ b off, a = some ⟨b, off, none⟩ ∧ ∀ i, i < len → w.cell? ⟨b, off + i, none⟩ = some (.int .i64 (f i)) ∧ -9223372036854775808 ≤ f i ∧ f i ≤ 9223372036854775807)
theorem RdS.at {w : World} {a : Option Addr} {len : Nat} {f : Nat → ByteArray} (h : RdS w a len f) {k : Nat} (hk : k < len) {X : World} (hX : Below w.heap.size w X) : ∃ b off, a = some ⟨b, off, none⟩ ∧ X.cell? ⟨b, off + k, none⟩ = some (.string (f k)) ∧ (f k).size ≤ maxLen := by
  rcases h.2 with e | ⟨b, off, ha, hc⟩
  · omega
  · exact ⟨b, off, ha, (hX.cell (p := ⟨b, off + k, none⟩) (World.block_lt_of_cell? _ _ (hc k hk).1)).trans (hc k hk).1, (hc k hk).2⟩
theorem RdI.at {w : World} {a : Option Addr} {len : Nat} {f : Nat → Int} (h : RdI w a len f) {k : Nat} (hk : k < len) {X : World} (hX : Below w.heap.size w X) : ∃ b off, a = some ⟨b, off, none⟩ ∧ X.cell? ⟨b, off + k, none⟩ = some (.int .i64 (f k)) ∧ -9223372036854775808 ≤ f k ∧ f k ≤ 9223372036854775807 := by
  rcases h.2 with e | ⟨b, off, ha, hc⟩
  · omega
  · exact ⟨b, off, ha, (hX.cell (p := ⟨b, off + k, none⟩) (World.block_lt_of_cell? _ _ (hc k hk).1)).trans (hc k hk).1, (hc k hk).2⟩
end Go.Proofs.YteegkhnikcioiaaGreatDoor

namespace Go.Proofs.YteegkhnikcioiaaGreatDoor
open Go.ChangeShapes Go.WideShapes Go.ChangeAt Go.RowKit
attribute [local go_sem ↓] loadSec_seal storeSec_seal eqlSec_seal zeroSec
attribute [local go_sem] loadSec_run storeSec_run rowAt_at rowAt_old rowAt_drew rowAt_drewN roomSec_new roomAt_old roomAt_drew roomAt_drewN putSec_new putRow_past rowSec_put size_put putRow_drew putRow_drewN alloc_drewN setCell_drewN sec_size

set_option linter.unusedVariables false

theorem wcells_at (wn wp : Nat → Nat) {k : Nat} : ∀ m, k < m → (wcells wn wp m)[k * 2]? = some (.int .i64 (wn k)) ∧ (wcells wn wp m)[k * 2 + 1]? = some (.pointer (some ⟨wp k, 0, none⟩))
  | 0, h => by omega
  | m + 1, h => by
    rw [wcells]
    by_cases e : k = m
    · subst e
      have hl := wcells_len wn wp k
      rw [List.getElem?_append_right (by omega), List.getElem?_append_right (by omega), hl]
      simp
    · have hl := wcells_len wn wp m
      rw [List.getElem?_append_left (by omega), List.getElem?_append_left (by omega)]
      exact wcells_at wn wp m (by omega)
theorem Rep.rowAt' {w : World} {b : Nat} {D : Dk} (h : Rep w b D) {k : Nat} (hk : k < D.m) : ∃ rg rc, D.rv = .slice (some ⟨rg, 0, none⟩) D.m rc ∧ D.m ≤ rc ∧ rg < w.heap.size ∧ w.cell? ⟨rg, k * 2, none⟩ = some (.int .i64 (D.wn k)) ∧ w.cell? ⟨rg, k * 2 + 1, none⟩ = some (.pointer (some ⟨D.wp k, 0, none⟩)) := by
  have hr := h.row
  rcases hr.2 with ⟨_, e0⟩ | ⟨g, cap, cur, e, _, _, h4, _⟩
  · omega
  · rw [e] at hr
    have h2 := wcells_at D.wn D.wp D.m hk
    refine ⟨g, cap, e, h4, (hr.lt g rfl).2, ?_, ?_⟩
    · rw [(own_cell hr (j := k * 2) (by omega)).1]; exact h2.1
    · rw [(own_cell hr (j := k * 2 + 1) (by omega)).1]; exact h2.2
/-- A row of values, filled up to k. -/
structure FillV (w : World) (G n k : Nat) (t : TypeId) (v : Nat → Value) (X : World) : Prop where
  below : Below w.heap.size w X
  old : w.heap.size ≤ G
  row : ∃ cur : Array Value, X.heap[G]? = some (.cells cur t (0, 0)) ∧ cur.size = n ∧ ∀ i, i < k → cur[i]? = some (v i)
theorem FillV.lt {w X : World} {G n k : Nat} {t : TypeId} {v : Nat → Value} (h : FillV w G n k t v X) : G < X.heap.size := by
  obtain ⟨cur, hg, _⟩ := h.row
  rcases Nat.lt_or_ge G X.heap.size with h1 | h1
  · exact h1
  · rw [Array.getElem?_eq_none h1] at hg; cases hg
theorem FillV.at {w X : World} {G n k : Nat} {t : TypeId} {v : Nat → Value} (h : FillV w G n k t v X) (hk : k < n) : (∃ v, X.cell? ⟨G, k, none⟩ = some v) ∧ X.frozen? ⟨G, k, none⟩ = false := by
  obtain ⟨cur, hg, hs, _⟩ := h.row
  refine ⟨⟨cur[k]'(by omega), ?_⟩, by simp [World.frozen?, hg]⟩
  rw [cell_of_row X G k cur _ (0, 0) hg]; simp [hs, hk]
theorem FillV.alloc {w X : World} {G n k : Nat} {t : TypeId} {v : Nat → Value} (h : FillV w G n k t v X) (o : Obj) : FillV w G n k t v (X.alloc o) := by
  obtain ⟨cur, hg, hs, hc⟩ := h.row
  exact ⟨h.below.alloc h.below.size _, h.old, cur, (Below.heap_alloc _ _ _ h.lt).trans hg, hs, hc⟩
theorem FillV.step {w X : World} {G n k : Nat} {t : TypeId} {v : Nat → Value} (h : FillV w G n k t v X) (hk : k < n) : FillV w G n (k + 1) t v (X.setCell ⟨G, k, none⟩ (v k)) := by
  obtain ⟨cur, hg, hs, hc⟩ := h.row
  refine ⟨h.below.setCell h.old _, h.old, cur.setIfInBounds k (v k), Go.Joins.block_setCell (i := k) hg _, by simpa using hs, fun i hi => ?_⟩
  by_cases e : i = k
  · subst e; simp [hs, hk]
  · rw [Array.getElem?_setIfInBounds_ne (Ne.symm e)]; exact hc i (by omega)
theorem FillV.start {w w1 : World} {n : Nat} {t : TypeId} {L : List Value} (v : Nat → Value) (h : w1.ownsRow w.heap.size t 1 (.slice (some ⟨w.heap.size, 0, none⟩) n n) n L) (hg : w.grownBy w1 none) : FillV w w.heap.size n 0 t v w1 := by
  refine ⟨(Below.refl _ w).grown hg (Nat.le_refl _) (fun k hk => by cases hk), Nat.le_refl _, ?_⟩
  rcases h.2 with ⟨h0, _⟩ | ⟨g', cap, cur, hv, _, hg, _, _, hs, ht⟩
  · simp at h0
  · simp at hv
    obtain ⟨rfl, rfl⟩ := hv
    exact ⟨cur, hg, by omega, fun i hi => by omega⟩
theorem FillV.cells {w X : World} {G n : Nat} {t : TypeId} {v : Nat → Value} (h : FillV w G n n t v X) {i : Nat} (hi : i < n) : X.cell? ⟨G, i, none⟩ = some (v i) := by
  obtain ⟨cur, hg, hs, hc⟩ := h.row
  rw [cell_of_row X G i cur _ (0, 0) hg, hc i hi]
theorem info3 : (Tryz.prog.info? 3).map (fun i => (i.zero, i.size, i.bytes)) = some (some (.int .i64 0), 1, 8) := by kernel_rfl
set_option maxHeartbeats 1000000 in
theorem writes_any (b : Nat) (D : Dk) (w : World) (h : Rep w b D) : Calls Tryz.prog 26 #[.pointer (some ⟨b, 0, none⟩)] w fun e w' => ∃ g, e = .returned (.slice (some ⟨g, 0, none⟩) D.m D.m) ∧ (∀ k, k < D.m → w'.cell? ⟨g, k, none⟩ = some (.int .i64 (D.wn k))) ∧ w.heap.size ≤ g ∧ g < w'.heap.size ∧ Below w.heap.size w w' := by
  obtain ⟨i0, hi, hz0, hz1, hz2⟩ := info_parts info3
  obtain ⟨ra, rcap, hv⟩ := h.rowV
  have hm := h.m1
  have h2 : w.cell? ⟨b, 2, none⟩ = some (.slice ra D.m rcap) := by rw [← hv]; exact (h.cell 2).trans D.at2
  have hb0 : b < w.heap.size := h.lt b (.inl (.inl rfl))
  have HC : Hid (∀ X k, Below w.heap.size w X → k < D.m → ∃ rg, ra = some ⟨rg, 0, none⟩ ∧ rg < w.heap.size ∧ X.cell? ⟨rg, k * 2, none⟩ = some (.int .i64 (D.wn k)) ∧ X.cell? ⟨rg, k * 2 + 1, none⟩ = some (.pointer (some ⟨D.wp k, 0, none⟩))) := fun X k hX hk => by
    obtain ⟨rg, rc, e, _, hl, c1, c2⟩ := h.rowAt' hk
    rw [hv] at e
    injection e with e1 _ _
    exact ⟨rg, e1, hl, (hX.cell (p := ⟨rg, k * 2, none⟩) hl).trans c1, (hX.cell (p := ⟨rg, k * 2 + 1, none⟩) hl).trans c2⟩
  have H2 : Hid (∀ X, Below w.heap.size w X → X.cell? ⟨b, 2, none⟩ = some (.slice ra D.m rcap)) := fun X hX => (hX.cell (p := ⟨b, 2, none⟩) hb0).trans h2
  clear h hv
  go_enter Tryz.func26, Tryz.ntmps26
  go_wp2_with (at_make; refine wpList_make_full _ rfl _ _ 66 rfl w.heap.size 3 i0 (.int .i64 0) 1 Tryz.underlying66 hi hz0 hz1 .i64 .i64 _ _ D.m rfl rfl rfl rfl (by rw [hz2]; omega) (by unfold maxLen; omega) (by simp) ?_; intro w2 hown2 hgrow2; have HF : Hid (FillV w w.heap.size D.m 0 3 (fun k => .int .i64 (D.wn k)) w2) := FillV.start _ hown2 hgrow2; have c2 := H2.out _ HF.out.below; clear hown2 hgrow2)
  go_loopw [19] (fun i X => ∃ k : Nat, k ≤ D.m ∧ i = .int .i64 k ∧ FillV w w.heap.size D.m k 3 (fun k => .int .i64 (D.wn k)) X) (fun i _ => D.m - (intOf i).toNat)
  case atStart => exact ⟨0, by omega, rfl, HF.out⟩
  case round =>
    obtain ⟨k, hk, rfl, hX⟩ := hrel
    have HX : Hid _ := hX
    by_cases hlt : k < D.m
    · obtain ⟨rg, rfl, hrg, c3, c4⟩ := HC.out _ k hX.below hlt
      obtain ⟨⟨v0, c5⟩, c6⟩ := hX.at hlt
      have hl := hX.lt
      have hrl : rg < _ := Nat.lt_of_lt_of_le hrg hX.below.size
      have j0 : (0 : Int) ≤ (k : Int) := by omega
      have j1 : (k : Int) < (D.m : Int) := by omega
      clear hX HF HC H2
      go_wp2
      go_roundw
      case rel => exact ⟨k + 1, by omega, by go_num, (HX.out.step hlt).alloc _⟩
      case measure => simp [intOf]; omega
    · obtain e : k = D.m := by omega
      clear hX HC H2
      go_wp2
      go_ret
      rw [e] at HX
      exact ⟨w.heap.size, by simp, fun k hk => HX.out.cells hk, Nat.le_refl _, HX.out.lt, HX.out.below⟩
end Go.Proofs.YteegkhnikcioiaaGreatDoor
