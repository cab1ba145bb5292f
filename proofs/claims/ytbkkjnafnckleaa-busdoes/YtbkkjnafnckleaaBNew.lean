/-
  A new bus.
-/
import Derived.Test.YtbkkjnafnckleaaDo
import Derived.Test.YtbkkjnafnckleaaWire
namespace Go.Proofs.Ytbkkjnafnckleaa
open Go.ChangeShapes Go.WideShapes Go.ChangeAt Go.RowKit
attribute [local go_sem ↓] loadSec_seal storeSec_seal eqlSec_seal zeroSec
attribute [local go_sem] loadSec_run storeSec_run rowAt_at rowAt_old rowAt_drew rowAt_drewN roomSec_new roomAt_old roomAt_drew roomAt_drewN putSec_new putRow_past rowSec_put size_put putRow_drew putRow_drewN alloc_drewN setCell_drewN sec_size

set_option linter.unusedVariables false

/-- A row of words that may be read. -/
def RdW (w : World) (a : Option Addr) (len : Nat) (f : Nat → Int) : Prop :=
  len ≤ maxLen ∧ (len = 0 ∨ ∃ b off, a = some ⟨b, off, none⟩ ∧ ∀ i, i < len → w.cell? ⟨b, off + i, none⟩ = some (.int .u32 (f i)) ∧ 0 ≤ f i ∧ f i ≤ 4294967295)
theorem RdW.same {w w' : World} {a : Option Addr} {len : Nat} {f : Nat → Int} (h : RdW w a len f) (hb : ∀ x, inB a x → w'.heap[x]? = w.heap[x]?) : RdW w' a len f :=
  ⟨h.1, h.2.imp id fun ⟨b, off, ha, hc⟩ => ⟨b, off, ha, fun i hi => ⟨(World.cell?_of_block (hb b ⟨_, ha, rfl⟩)).trans (hc i hi).1, (hc i hi).2⟩⟩⟩
theorem RdW.at {w : World} {a : Option Addr} {len : Nat} {f : Nat → Int} (h : RdW w a len f) {k : Nat} (hk : k < len) : ∃ b off, a = some ⟨b, off, none⟩ ∧ w.cell? ⟨b, off + k, none⟩ = some (.int .u32 (f k)) ∧ 0 ≤ f k ∧ f k ≤ 4294967295 := by
  rcases h.2 with e | ⟨b, off, ha, hc⟩
  · omega
  · exact ⟨b, off, ha, hc k hk⟩
theorem RdW.lt {w : World} {a : Option Addr} {len : Nat} {f : Nat → Int} (h : RdW w a len f) (h0 : 0 < len) : ∀ x, inB a x → x < w.heap.size := by
  rintro x ⟨p, hp, e⟩
  obtain ⟨b, off, ha, hc, _⟩ := h.at h0
  have := World.block_lt_of_cell? _ _ hc
  rw [ha] at hp
  cases hp
  subst e
  exact this
def initM (f : Nat → Int) (len i : Nat) : Int := if i / 4 < len then byteOf (f (i / 4)) (i % 4) else 0
theorem init_byte (f : Nat → Int) (len : Nat) : ∀ i, 0 ≤ initM f len i ∧ initM f len i ≤ 255 := fun i => by
  unfold initM; split
  · exact byteOf_bd _ _
  · exact ⟨by decide, by decide⟩
theorem init0 (f : Nat → Int) : ∀ i, initM f 0 i = 0 := fun i => if_neg (by omega)
theorem init_next (f : Nat → Int) (k : Nat) (hk : k < 262144) (i : Nat) : putL 1048576 (initM f k) (4 * (k : Int)) (f k) i = initM f (k + 1) i := by
  have hf : fits 1048576 (4 * (k : Int)) = true := by unfold fits; exact decide_eq_true (by omega)
  unfold putL
  rw [if_pos hf, show (4 * (k : Int)).toNat = 4 * k by omega]
  unfold partL initM
  by_cases h : 4 * k ≤ i ∧ i < 4 * k + 4
  · rw [if_pos h, if_pos (by omega), show i / 4 = k by omega, show i - 4 * k = i % 4 by omega]
  · rw [if_neg h]
    by_cases h2 : i / 4 < k
    · rw [if_pos h2, if_pos (by omega)]
    · rw [if_neg h2, if_neg (by omega)]
theorem new_nil (v : Value) (w : World) : Calls Try.prog 16 #[v, .pointer none] w fun e w' => e = .returned (.tuple #[.pointer none, .int .i64 1]) ∧ w' = w := by
  go_enter Try.func16, Try.ntmps16
  go_wp2
  go_ret2
  exact ⟨rfl, rfl⟩
theorem new_many (a : Option Addr) (len cap d : Nat) (w : World) (hl : 262144 < len) : Calls Try.prog 16 #[.slice a len cap, .pointer (some ⟨d, 0, none⟩)] w fun e w' => e = .returned (.tuple #[.pointer none, .int .i64 2]) ∧ w' = w := by
  have h1 : (262144 : Int) < (len : Int) := by omega
  go_enter Try.func16, Try.ntmps16
  go_wp2
  go_ret2
  exact ⟨rfl, rfl⟩
def Lg.new (f : Nat → Int) (len : Nat) (D : Dk) : Lg := { M := initM f len, I := [], O := [], tk := 0, sc := 0, ad := 0, cm := 0, n := D.n, S := D.S, m := D.m }
def Ph.new (mb db vb cb : Nat) (D : Dk) : Ph := { mb := mb, db := db, vb := vb, cb := cb, ia := none, ic := 0, oa := none, oc := 0, D := D }
def bus0 (mb db : Nat) : Array Value := #[.slice (some ⟨mb, 0, none⟩) 1048576 1048576, .pointer (some ⟨db, 0, none⟩), .slice none 0 0, .slice none 0 0, .slice none 0 0, .int .u32 0, .int .u32 0, .int .u32 0, .int .u32 0]
/-- What a new bus is made of. -/
theorem new_end {w w2 X : World} {db : Nat} {D : Dk} {f : Nat → Int} {len b : Nat} (hD : Rep w db D) (hX : Tou (fun x => x = w.heap.size) w2 X) (h2 : Below w.heap.size w w2) (hbb : b < w2.heap.size) (hbw : w.heap.size < b) (hrow : rowAt w2 b = some (bus0 w.heap.size db)) (hroom : roomAt w2 b 9 = true) (hm : BRow X w.heap.size 1048576 (initM f len)) :
    Bus ((((X.alloc (.cells #[.pointer (some ⟨b, 0, none⟩)] 25)).alloc (.cells (devs b X.heap.size) 110)).setCell ⟨b, 2, none⟩ (.slice (some ⟨X.heap.size + 1, 0, none⟩) 7 7))) b (Ph.new w.heap.size db (X.heap.size + 1) X.heap.size D) (Lg.new f len D) ∧
      Below w.heap.size w ((((X.alloc (.cells #[.pointer (some ⟨b, 0, none⟩)] 25)).alloc (.cells (devs b X.heap.size) 110)).setCell ⟨b, 2, none⟩ (.slice (some ⟨X.heap.size + 1, 0, none⟩) 7 7))) := by
  have sX := hX.size
  have s2 := h2.size
  have hbX : Below w.heap.size w X := h2.trans (hX.below s2 fun x hx => by omega)
  have hY : Below X.heap.size X ((X.alloc (.cells #[.pointer (some ⟨b, 0, none⟩)] 25)).alloc (.cells (devs b X.heap.size) 110)) := ((Below.refl _ X).alloc (Nat.le_refl _) _).alloc (by simp) _
  have hYs : ((X.alloc (.cells #[.pointer (some ⟨b, 0, none⟩)] 25)).alloc (.cells (devs b X.heap.size) 110)).heap.size = X.heap.size + 2 := by simp
  have hWY : Below w.heap.size w ((X.alloc (.cells #[.pointer (some ⟨b, 0, none⟩)] 25)).alloc (.cells (devs b X.heap.size) 110)) := hbX.trans (hY.mono hbX.size)
  refine ⟨?_, hWY.setCell (Nat.le_of_lt hbw) _⟩
  have hd : ∀ x, D.mut db x ∨ D.fix x → x < w.heap.size := hD.lt
  have hb1 : ((X.alloc (.cells #[.pointer (some ⟨b, 0, none⟩)] 25)).alloc (.cells (devs b X.heap.size) 110)).heap[b]? = w2.heap[b]? := (hY.block b (by omega)).trans (hX.block b hbb (by omega))
  have hc : Core ((X.alloc (.cells #[.pointer (some ⟨b, 0, none⟩)] 25)).alloc (.cells (devs b X.heap.size) 110)) b (Ph.new w.heap.size db (X.heap.size + 1) X.heap.size D) (Lg.new f len D) := {
    mem := hm.same (hY.block _ (by show w.heap.size < X.heap.size; omega))
    byte := fun i _ => init_byte f len i
    dsk := hD.below hWY
    dn := rfl
    dS := rfl
    dm := rfl
    dev := by
      have := rowAt_new (X.alloc (.cells #[.pointer (some ⟨b, 0, none⟩)] 25)) (devs b X.heap.size) 110 (0, 0)
      have e : (X.alloc (.cells #[.pointer (some ⟨b, 0, none⟩)] 25)).heap.size = X.heap.size + 1 := by simp
      rw [e] at this
      exact this
    cap := by
      show rowAt _ X.heap.size = _
      rw [rowAt_old _ _ _ (by simp)]; exact rowAt_new _ _ _ _
    inp := ⟨.inl ⟨rfl, rfl, rfl⟩, fun x hx => by cases hx⟩
    out := ⟨.inl ⟨rfl, rfl, rfl⟩, fun x hx => by cases hx⟩
    il := Nat.zero_le _
    ol := Nat.zero_le _
    tk := u32J
    sc := u32J
    ad := u32J
    cm := u32J
    tag := ⟨fun x => if x < w.heap.size then 6 else if x = w.heap.size then 1 else if x = b then 0 else if x = X.heap.size then 3 else 2, {
      b := (if_neg (by omega)).trans ((if_neg (by omega)).trans (if_pos rfl))
      mb := (if_neg (Nat.lt_irrefl w.heap.size)).trans (if_pos rfl)
      vb := (if_neg (c := X.heap.size + 1 < w.heap.size) (by omega)).trans ((if_neg (c := X.heap.size + 1 = w.heap.size) (by omega)).trans ((if_neg (c := X.heap.size + 1 = b) (by omega)).trans (if_neg (c := X.heap.size + 1 = X.heap.size) (by omega))))
      cb := (if_neg (c := X.heap.size < w.heap.size) (by omega)).trans ((if_neg (c := X.heap.size = w.heap.size) (by omega)).trans ((if_neg (c := X.heap.size = b) (by omega)).trans (if_pos rfl)))
      ia := fun x ⟨p, hp, _⟩ => by cases hp
      oa := fun x ⟨p, hp, _⟩ => by cases hp
      D := fun x hx => if_pos (hd x hx) }⟩
    lt := fun x hx => by
      rw [hYs]
      rcases hx with e | e | e | e | ⟨p, hp, _⟩ | ⟨p, hp, _⟩ | e
      · omega
      · have e : x = w.heap.size := e; omega
      · have e : x = X.heap.size + 1 := e; omega
      · have e : x = X.heap.size := e; omega
      · cases hp
      · cases hp
      · have := hd x e; omega }
  exact hc.put ((rowAt_same hb1).trans hrow) ((roomAt_same hb1).trans hroom) 2 _ rfl
set_option maxHeartbeats 2000000 in
theorem new_bus (a : Option Addr) (len cap db : Nat) (f : Nat → Int) (D : Dk) (w : World) (hD : Rep w db D) (hl : len ≤ 262144) (hr : RdW w a len f) : Calls Try.prog 16 #[.slice a len cap, .pointer (some ⟨db, 0, none⟩)] w fun e w' => ∃ b P, e = .returned (.tuple #[.pointer (some ⟨b, 0, none⟩), .int .i64 0]) ∧ Bus w' b P (Lg.new f len D) ∧ P.db = db ∧ P.D = D ∧ (∀ x, P.all b x → (D.mut db x ∨ D.fix x) ∨ w.heap.size ≤ x) ∧ Below w.heap.size w w' := by
  obtain ⟨i0, hi, hz0, hz1, hz2⟩ := info_parts info5
  have h1 : ¬ (262144 : Int) < (len : Int) := by omega
  have HR : Hid (RdW w a len f) := hr
  have HD : Hid (Rep w db D) := hD
  clear hr hD
  go_enter Try.func16, Try.ntmps16
  go_wp2_with (at_make; refine wpList_make_full _ rfl _ _ 35 rfl w.heap.size 5 i0 (.int .u8 0) 1 Try.underlying35 hi hz0 hz1 .i64 .i64 _ _ 1048576 rfl rfl rfl rfl (by rw [hz2]; decide) (by decide) (Nat.le_refl _) ?_; intro w2 hown2 hgrow2; have HM : Hid (BRow w2 w.heap.size 1048576 (fun _ => 0)) := BRow.made hown2; have HB : Hid (Below w.heap.size w w2) := (Below.refl _ w).grown hgrow2 (Nat.le_refl _) (fun k hk => by cases hk); clear hown2 hgrow2)
  have HB0 : Hid (Below w.heap.size w (w2.alloc (.cells (bus0 w.heap.size db) 80))) := HB.out.alloc HB.out.size _
  have HM0 : Hid (BRow (w2.alloc (.cells (bus0 w.heap.size db) 80)) w.heap.size 1048576 (initM f 0)) := (HM.out.same (Below.heap_alloc _ _ _ HM.out.lt)).ext fun i _ => (init0 f i).symm
  have hbw : w.heap.size < w2.heap.size := HM.out.lt
  go_loopw [20] (fun i X => ∃ k : Nat, k ≤ len ∧ i = .int .i64 k ∧ BRow X w.heap.size 1048576 (initM f k) ∧ Tou (fun x => x = w.heap.size) (w2.alloc (.cells (bus0 w.heap.size db) 80)) X) (fun i _ => len - (intOf i).toNat)
  case atStart => exact ⟨0, Nat.zero_le _, rfl, HM0.out, Tou.refl _ _⟩
  case round =>
    obtain ⟨k, hk, rfl, hM, hT⟩ := hrel
    have HM1 : Hid (BRow wr w.heap.size 1048576 (initM f k)) := hM
    have HT1 : Hid (Tou (fun x => x = w.heap.size) (w2.alloc (.cells (bus0 w.heap.size db) 80)) wr) := hT
    clear hM hT HM HM0
    by_cases hlt : k < len
    · obtain ⟨g, off, rfl, hc, f0, f1⟩ := HR.out.at hlt
      have hgl := World.block_lt_of_cell? _ _ hc
      simp only [] at hgl
      have hc' : wr.cell? ⟨g, off + k, none⟩ = some (.int .u32 (f k)) := (World.cell?_of_block ((HT1.out.block g (by simp; omega) (by omega)).trans (HB0.out.block g hgl))).trans hc
      have hb' : wr.cell? ⟨w2.heap.size, 0, none⟩ = some (.slice (some ⟨w.heap.size, 0, none⟩) 1048576 1048576) := (World.cell?_of_block (HT1.out.block w2.heap.size (by simp) (by omega))).trans (rowAt_cell (rowAt_new _ _ _ _) 0)
      have j0 : (0 : Int) ≤ (k : Int) := by omega
      have j1 : (k : Int) < (len : Int) := by omega
      clear hc
      go_wp2_with (go_at_call 40; refine (put_any w.heap.size 1048576 _ (initM f k) _ _ _ (by decide) HM1.out).mono ?_; rintro e w3 ⟨rfl, hr3, ht3, hz3⟩)
      go_roundw
      case rel =>
        refine ⟨k + 1, by omega, by go_num, hr3.ext fun i _ => ?_, HT1.out.trans ht3 fun x _ hx => hx⟩
        have := init_next f k (by omega) i
        rw [← this, Int.mul_comm]
      case measure => simp [intOf]; omega
    · obtain rfl : k = len := by omega
      have hsz := HT1.out.size
      have hsz : w2.heap.size < wr.heap.size := by have e : w2.heap.size + 1 ≤ wr.heap.size := by { simpa using hsz }; omega
      have hrow : rowAt (w2.alloc (.cells (bus0 w.heap.size db) 80)) w2.heap.size = some (bus0 w.heap.size db) := rowAt_new _ _ _ _
      have hroom : roomAt (w2.alloc (.cells (bus0 w.heap.size db) 80)) w2.heap.size 9 = true := roomAt_new _ _ _ _ _ rfl rfl
      have HE : Hid _ := new_end (f := f) HD.out HT1.out HB0.out (by simp) hbw hrow hroom HM1.out
      have hblk := HT1.out.block w2.heap.size (by simp) (by omega)
      have q2 : wr.cell? ⟨w2.heap.size, 2, none⟩ = some (.slice none 0 0) := (rowAt_cell ((rowAt_same hblk).trans hrow) 2).trans rfl
      have q3 : wr.frozen? ⟨w2.heap.size, 2, none⟩ = false := by
        have := (room_there ((roomAt_same hblk).trans hroom) 2 (by omega)).2
        simpa using this
      have q4 : ∀ o o' : Obj, ((wr.alloc o).alloc o').cell? ⟨w2.heap.size, 2, none⟩ = some (.slice none 0 0) := fun o o' => by rw [World.cell?_alloc_old _ _ _ (by simp; omega), World.cell?_alloc_old _ _ _ (by simp; omega)]; exact q2
      have q5 : ∀ o o' : Obj, ((wr.alloc o).alloc o').frozen? ⟨w2.heap.size, 2, none⟩ = false := fun o o' => by rw [World.frozen?_alloc_old _ _ _ (by simp; omega), World.frozen?_alloc_old _ _ _ (by simp; omega)]; exact q3
      clear hrow hroom hblk q2 q3
      go_wp2_with (go_at_call 41; refine (wired_any _ _).mono ?_; rintro e w3 ⟨rfl, hw⟩; obtain rfl := hw.symm)
      go_ret2
      have HE := HE.out
      rw [World.setCell_alloc_past _ _ _ _ (by simp; omega), World.setCell_alloc_past _ _ _ _ hsz] at HE
      refine ⟨w2.heap.size, _, rfl, HE.1, rfl, rfl, ?_, HE.2⟩
      rintro x (e | e | e | e | ⟨p, hp, _⟩ | ⟨p, hp, _⟩ | e)
      · right; omega
      · right; exact Nat.le_of_eq (show x = w.heap.size from e).symm
      · right; have e : x = wr.heap.size + 1 := e; omega
      · right; have e : x = wr.heap.size := e; omega
      · cases hp
      · cases hp
      · exact .inl e
end Go.Proofs.Ytbkkjnafnckleaa
