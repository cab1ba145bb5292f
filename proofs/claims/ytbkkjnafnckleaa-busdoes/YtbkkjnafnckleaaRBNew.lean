/-
  The document's bus, made new.
-/
import Derived.Test.YtbkkjnafnckleaaDuo
namespace Go.Proofs.Ytbkkjnafnckleaa
open Go.ChangeShapes Go.WideShapes Go.ChangeAt Go.RowKit
attribute [local go_sem ↓] loadSec_seal storeSec_seal eqlSec_seal zeroSec
attribute [local go_sem] loadSec_run storeSec_run rowAt_at rowAt_old rowAt_drew rowAt_drewN roomSec_new roomAt_old roomAt_drew roomAt_drewN putSec_new putRow_past rowSec_put size_put putRow_drew putRow_drewN alloc_drewN setCell_drewN sec_size

set_option linter.unusedVariables false

theorem rbnew_many (a : Option Addr) (len cap d : Nat) (w : World) (hl : 262144 < len) : Calls Try.prog 29 #[.slice a len cap, .pointer (some ⟨d, 0, none⟩)] w fun e w' => e = .returned (.tuple #[.pointer none, .int .i64 2]) ∧ w' = w := by
  have h1 : (262144 : Int) < (len : Int) := by omega
  go_enter Try.func29, Try.ntmps29
  go_wp2
  go_ret2
  exact ⟨rfl, rfl⟩
def RPh.new (mb rd : Nat) (R : Rk) : RPh := { mb := mb, rd := rd, R := R, In := ⟨#[]⟩, pa := none, pc := 0 }
theorem RdW.below {w w' : World} {a : Option Addr} {len : Nat} {f : Nat → Int} (h : RdW w a len f) (hb : Below w.heap.size w w') : RdW w' a len f :=
  ⟨h.1, h.2.imp id fun ⟨b, off, ha, hc⟩ => ⟨b, off, ha, fun i hi => ⟨(hb.cell (p := ⟨b, off + i, none⟩) (World.block_lt_of_cell? _ _ (hc i hi).1)).trans (hc i hi).1, (hc i hi).2⟩⟩⟩
theorem RdW.bd {w : World} {a : Option Addr} {len : Nat} {f : Nat → Int} (h : RdW w a len f) : ∀ i, i < len → 0 ≤ f i ∧ f i ≤ 4294967295 := fun i hi => by
  obtain ⟨_, _, _, _, h0, h1⟩ := h.at hi
  exact ⟨h0, h1⟩
theorem rbnew_end {w w2 w3 : World} {rd len : Nat} {R : Rk} {f : Nat → Int} {D : Dk} (hR : RepR w rd R) (hn : R.n = D.n) (hm : R.m = D.m) (hS : ∀ i, i < D.n → lastR R D.m i = strF (D.S i) 1024) (hB : ∀ i, i < D.n → ByteF (D.S i)) (hf : ∀ i, i < len → 0 ≤ f i ∧ f i ≤ 4294967295) (hb2 : Below w.heap.size w w2) (ht : Tou (fun x => x = w.heap.size) w2 w3) (hrow : WRow w3 w.heap.size 262144 (fun i => if i < len then f i else 0)) (h3 : w.heap.size < w3.heap.size) :
    RBus (w3.alloc (.cells (cellsR (RPh.new w.heap.size rd R) (Lg.new f len D)) 38)) w3.heap.size (RPh.new w.heap.size rd R) (Lg.new f len D) ∧ Below w.heap.size w (w3.alloc (.cells (cellsR (RPh.new w.heap.size rd R) (Lg.new f len D)) 38)) := by
  have hb3 : Below w.heap.size w w3 := hb2.trans (ht.below hb2.size fun x hx => by omega)
  have hb4 : Below w.heap.size w (w3.alloc (.cells (cellsR (RPh.new w.heap.size rd R) (Lg.new f len D)) 38)) := hb3.alloc hb3.size _
  refine ⟨{
    mem := (hrow.ext fun i _ => wd_init f len hf i).same (Below.heap_alloc _ _ _ h3)
    byte := fun i _ => init_byte f len i
    dsk := hR.below hb4
    dn := hn
    dm := hm
    dS := hS
    dB := hB
    inp := rfl
    out := ⟨.inl ⟨rfl, rfl, rfl⟩, fun x hx => by cases hx⟩
    il := Nat.zero_le _
    ol := Nat.zero_le _
    tk := u32J
    sc := u32J
    ad := u32J
    cm := u32J
    tag := ⟨fun x => if x < w.heap.size then 3 else if x = w.heap.size then 1 else 0, {
      r := (if_neg (c := w3.heap.size < w.heap.size) (by omega)).trans (if_neg (c := w3.heap.size = w.heap.size) (by omega))
      mb := (if_neg (Nat.lt_irrefl w.heap.size)).trans (if_pos rfl)
      pa := fun x hx => by obtain ⟨p, hp, _⟩ := hx; cases hp
      R := fun x hx => if_pos (hR.lt x hx) }⟩
    lt := fun x hx => by
      have es : (w3.alloc (.cells (cellsR (RPh.new w.heap.size rd R) (Lg.new f len D)) 38)).heap.size = w3.heap.size + 1 := by simp
      rw [es]
      rcases hx with e | e | e | e
      · omega
      · have e : x = w.heap.size := e; omega
      · obtain ⟨p, hp, _⟩ := e; cases hp
      · have := hR.lt x e; omega
    blk := rowAt_new _ _ _ _
    room := roomAt_new _ _ _ _ _ rfl rfl }, hb4⟩
set_option maxHeartbeats 1000000 in
theorem rbnew_bus (a : Option Addr) (len cap rd : Nat) (f : Nat → Int) (R : Rk) (D : Dk) (w : World) (hR : RepR w rd R) (hn : R.n = D.n) (hm : R.m = D.m) (hS : ∀ i, i < D.n → lastR R D.m i = strF (D.S i) 1024) (hB : ∀ i, i < D.n → ByteF (D.S i)) (hl : len ≤ 262144) (hr : RdW w a len f) : Calls Try.prog 29 #[.slice a len cap, .pointer (some ⟨rd, 0, none⟩)] w fun e w' => ∃ r, e = .returned (.tuple #[.pointer (some ⟨r, 0, none⟩), .int .i64 0]) ∧ ∃ Q, RBus w' r Q (Lg.new f len D) ∧ (∀ x, Q.all r x → R.mut rd x ∨ w.heap.size ≤ x) ∧ Below w.heap.size w w' := by
  obtain ⟨i0, hi, hz0, hz1, hz2⟩ := info_parts info30
  have h1 : ¬ (262144 : Int) < (len : Int) := by omega
  have HR : Hid (RepR w rd R ∧ R.n = D.n ∧ R.m = D.m ∧ (∀ i, i < D.n → lastR R D.m i = strF (D.S i) 1024) ∧ (∀ i, i < D.n → ByteF (D.S i)) ∧ RdW w a len f) := ⟨hR, hn, hm, hS, hB, hr⟩
  clear hR hn hm hS hB hr
  go_enter Try.func29, Try.ntmps29
  go_wp2_with (at_make; refine wpList_make_full _ rfl _ _ 22 rfl w.heap.size 30 i0 (.int .u32 0) 1 Try.underlying22 hi hz0 hz1 .i64 .i64 _ _ 262144 rfl rfl rfl rfl (by rw [hz2]; decide) (by decide) (Nat.le_refl _) ?_; intro w2 hown2 hgrow2; have hb2 : Below w.heap.size w w2 := (Below.refl _ w).grown hgrow2 (Nat.le_refl _) (fun k hk => by cases hk); have hlt2 := (hown2.lt _ rfl).2; obtain ⟨w3, hr3, hW3, ht3⟩ := copy_words (WRow.full hown2) 262144 262144 a len cap hl (by omega) (HR.out.2.2.2.2.2.below hb2); have HE : Hid _ := rbnew_end (D := D) HR.out.1 HR.out.2.1 HR.out.2.2.1 HR.out.2.2.2.1 HR.out.2.2.2.2.1 HR.out.2.2.2.2.2.bd hb2 ht3 hW3 (Nat.lt_of_lt_of_le hlt2 ht3.size); have hz3 : w.heap.size < w3.heap.size := Nat.lt_of_lt_of_le hlt2 ht3.size; clear hown2 hgrow2 hb2 hlt2 hW3 ht3)
  go_ret2
  refine ⟨w3.heap.size, rfl, _, HE.out.1, ?_, HE.out.2⟩
  rintro x (e | e | e | e)
  · right; omega
  · right; exact Nat.le_of_eq (show x = w.heap.size from e).symm
  · obtain ⟨p, hp, _⟩ := e; cases hp
  · exact .inl e
end Go.Proofs.Ytbkkjnafnckleaa
