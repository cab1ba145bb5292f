/-
  A word is loaded, from memory or from a device.
-/
import Derived.Test.YtbkkjnafnckleaaObey
import Derived.Test.YtbkkjnafnckleaaDev
namespace Go.Proofs.Ytbkkjnafnckleaa
open Go.ChangeShapes Go.WideShapes Go.ChangeAt Go.RowKit
attribute [local go_sem ↓] loadSec_seal storeSec_seal eqlSec_seal zeroSec
attribute [local go_sem] loadSec_run storeSec_run rowAt_at rowAt_old rowAt_drew rowAt_drewN roomSec_new roomAt_old roomAt_drew roomAt_drewN putSec_new putRow_past rowSec_put size_put putRow_drew putRow_drewN alloc_drewN setCell_drewN sec_size

set_option linter.unusedVariables false

theorem field_load (x0 x1 x2 : Value) (X : World) : (Instr.field 110 (.agg #[x0, x1, x2]) 1).run Try.prog X = .ok x1 X := by kernel_rfl
theorem field_store (x0 x1 x2 : Value) (X : World) : (Instr.field 110 (.agg #[x0, x1, x2]) 2).run Try.prog X = .ok x2 X := by kernel_rfl
theorem neq_load (fn : Fn) (first cap : Array Value) (X : World) : (binOp .neq 108 (.func fn first cap) .nilFunc).run Try.prog X = .ok (.bool true) X := by kernel_rfl
theorem neq_loadn (X : World) : (binOp .neq 108 .nilFunc .nilFunc).run Try.prog X = .ok (.bool false) X := by kernel_rfl
theorem neq_store (fn : Fn) (first cap : Array Value) (X : World) : (binOp .neq 69 (.func fn first cap) .nilFunc).run Try.prog X = .ok (.bool true) X := by kernel_rfl
theorem neq_storen (X : World) : (binOp .neq 69 .nilFunc .nilFunc).run Try.prog X = .ok (.bool false) X := by kernel_rfl
/-- What is loaded as a word, how it ends, and what is held behind it. -/
def Lg.dev (L : Lg) : Nat → (Int × Int) × Lg
  | 0 => ((L.tk, 0), L)
  | 1 => match L.I with
    | [] => ((0, 2), L)
    | x :: r => ((x, 0), { L with I := r })
  | 2 => ((if L.I = [] then 2 else 3, 0), L)
  | 3 => ((L.sc, 0), L)
  | 4 => ((L.ad, 0), L)
  | 5 => ((L.cm, 0), L)
  | 6 => (((L.n : Int), 0), L)
  | _ => ((0, 1), L)
def Lg.load (L : Lg) (a : Int) : (Int × Int) × Lg := if isW a then ((wordAt L.M a, 0), L) else L.dev (devN a)
theorem ret2i {a a' b b' : Int} (h : a = a') (g : b = b') : Ending.returned (.tuple #[.int .u32 a, .int .i64 b]) = .returned (.tuple #[.int .u32 a', .int .i64 b']) := by rw [h, g]
theorem loadWord_mem (b : Nat) (P : Ph) (L : Lg) (a : Int) (w : World) (h : Bus w b P L) (a0 : 0 ≤ a) (a1 : a ≤ 4294967295) (hw : isW a = true) : Calls Try.prog 42 #[.pointer (some ⟨b, 0, none⟩), .int .u32 a] w fun e w' => e = .returned (.tuple #[.int .u32 (wordAt L.M a), .int .i64 0]) ∧ ∃ P', Stp w b P w' P' L := by
  have H : Hid (Bus w b P L) := h
  have HG : Hid (gotV L.M a = wordAt L.M a) := if_pos hw
  clear h
  go_enter Try.func42, Try.ntmps42
  go_wp2_with (go_at_call 18; refine (word_any b P L a _ H.out a0 a1).mono ?_; rw [hw]; rintro e w1 ⟨rfl, hb⟩)
  go_ret2
  exact ⟨ret2i HG.out rfl, P, Stp.below H.out hb⟩
theorem dev_any (b : Nat) (P : Ph) (L : Lg) (a : Int) (k : Nat) (w : World) (h : Bus w b P L) (hk : devN a = k) : Calls Try.prog 68 #[.pointer (some ⟨b, 0, none⟩), .int .u32 a] w fun e w' => e = .returned (devV b P.cb k) ∧ Below w.heap.size w w' := hk ▸ deviceAt_any b P L a w h
theorem dev_0 (b : Nat) (P : Ph) (L : Lg) (a : Int) (w : World) (h : Bus w b P L) (hk : devN a = 0) : Calls Try.prog 68 #[.pointer (some ⟨b, 0, none⟩), .int .u32 a] w fun e w' => e = .returned (.agg #[.int .u32 4294967232, .func (.func 56) #[] #[.pointer (some ⟨P.cb, 0, none⟩)], .nilFunc]) ∧ Below w.heap.size w w' := dev_any b P L a 0 w h hk
theorem dev_1 (b : Nat) (P : Ph) (L : Lg) (a : Int) (w : World) (h : Bus w b P L) (hk : devN a = 1) : Calls Try.prog 68 #[.pointer (some ⟨b, 0, none⟩), .int .u32 a] w fun e w' => e = .returned (.agg #[.int .u32 4294967236, .func (.func 57) #[.pointer (some ⟨b, 0, none⟩)] #[], .func (.func 58) #[.pointer (some ⟨b, 0, none⟩)] #[]]) ∧ Below w.heap.size w w' := dev_any b P L a 1 w h hk
theorem dev_2 (b : Nat) (P : Ph) (L : Lg) (a : Int) (w : World) (h : Bus w b P L) (hk : devN a = 2) : Calls Try.prog 68 #[.pointer (some ⟨b, 0, none⟩), .int .u32 a] w fun e w' => e = .returned (.agg #[.int .u32 4294967240, .func (.func 59) #[.pointer (some ⟨b, 0, none⟩)] #[], .nilFunc]) ∧ Below w.heap.size w w' := dev_any b P L a 2 w h hk
theorem dev_3 (b : Nat) (P : Ph) (L : Lg) (a : Int) (w : World) (h : Bus w b P L) (hk : devN a = 3) : Calls Try.prog 68 #[.pointer (some ⟨b, 0, none⟩), .int .u32 a] w fun e w' => e = .returned (.agg #[.int .u32 4294967244, .func (.func 60) #[] #[.pointer (some ⟨P.cb, 0, none⟩)], .func (.func 61) #[] #[.pointer (some ⟨P.cb, 0, none⟩)]]) ∧ Below w.heap.size w w' := dev_any b P L a 3 w h hk
theorem dev_4 (b : Nat) (P : Ph) (L : Lg) (a : Int) (w : World) (h : Bus w b P L) (hk : devN a = 4) : Calls Try.prog 68 #[.pointer (some ⟨b, 0, none⟩), .int .u32 a] w fun e w' => e = .returned (.agg #[.int .u32 4294967248, .func (.func 62) #[] #[.pointer (some ⟨P.cb, 0, none⟩)], .func (.func 63) #[] #[.pointer (some ⟨P.cb, 0, none⟩)]]) ∧ Below w.heap.size w w' := dev_any b P L a 4 w h hk
theorem dev_5 (b : Nat) (P : Ph) (L : Lg) (a : Int) (w : World) (h : Bus w b P L) (hk : devN a = 5) : Calls Try.prog 68 #[.pointer (some ⟨b, 0, none⟩), .int .u32 a] w fun e w' => e = .returned (.agg #[.int .u32 4294967252, .func (.func 64) #[] #[.pointer (some ⟨P.cb, 0, none⟩)], .func (.func 65) #[.pointer (some ⟨b, 0, none⟩)] #[]]) ∧ Below w.heap.size w w' := dev_any b P L a 5 w h hk
theorem dev_6 (b : Nat) (P : Ph) (L : Lg) (a : Int) (w : World) (h : Bus w b P L) (hk : devN a = 6) : Calls Try.prog 68 #[.pointer (some ⟨b, 0, none⟩), .int .u32 a] w fun e w' => e = .returned (.agg #[.int .u32 4294967256, .func (.func 66) #[] #[.pointer (some ⟨P.cb, 0, none⟩)], .nilFunc]) ∧ Below w.heap.size w w' := dev_any b P L a 6 w h hk
theorem dev_7 (b : Nat) (P : Ph) (L : Lg) (a : Int) (w : World) (h : Bus w b P L) (hk : devN a = 7) : Calls Try.prog 68 #[.pointer (some ⟨b, 0, none⟩), .int .u32 a] w fun e w' => e = .returned (.agg #[.int .u32 0, .nilFunc, .nilFunc]) ∧ Below w.heap.size w w' := dev_any b P L a 7 w h hk
set_option maxHeartbeats 1000000 in
theorem loadWord_0 (b : Nat) (P : Ph) (L : Lg) (a : Int) (w : World) (h : Bus w b P L) (a0 : 0 ≤ a) (a1 : a ≤ 4294967295) (hw : isW a = false) (hk : devN a = 0) : Calls Try.prog 42 #[.pointer (some ⟨b, 0, none⟩), .int .u32 a] w fun e w' => e = .returned (.tuple #[.int .u32 L.tk, .int .i64 0]) ∧ ∃ P', Stp w b P w' P' L := by
  have H : Hid (Bus w b P L) := h
  have q1 := field_load
  have q2 := neq_load
  have q3 := neq_loadn
  clear h
  go_enter Try.func42, Try.ntmps42
  go_wp2_with (first
    | (go_at_call 18; refine (word_any b P L a _ H.out a0 a1).mono ?_; rw [hw]; rintro e w1 ⟨rfl, hb⟩; have HB : Hid (Below w.heap.size w w1) := hb; clear hb)
    | (go_at_call 68; refine (dev_0 b P L a _ (H.out.below HB.out) hk).mono ?_; rintro e w2 ⟨rfl, hb⟩; have HB2 : Hid (Below w.heap.size w w2) := HB.out.trans (hb.mono HB.out.size); clear hb)
    | (go_at_call 56; refine (timer_any b P L _ (H.out.below HB2.out)).mono ?_; rintro e w3 ⟨rfl, hw3⟩; obtain rfl := hw3.symm))
  go_ret2
  exact ⟨rfl, P, Stp.below H.out HB2.out⟩
set_option maxHeartbeats 1000000 in
theorem loadWord_2e (b : Nat) (P : Ph) (L : Lg) (a : Int) (w : World) (h : Bus w b P L) (a0 : 0 ≤ a) (a1 : a ≤ 4294967295) (hw : isW a = false) (hk : devN a = 2) (hI : L.I = []) : Calls Try.prog 42 #[.pointer (some ⟨b, 0, none⟩), .int .u32 a] w fun e w' => e = .returned (.tuple #[.int .u32 2, .int .i64 0]) ∧ ∃ P', Stp w b P w' P' L := by
  have H : Hid (Bus w b P L) := h
  have q1 := field_load
  have q2 := neq_load
  have q3 := neq_loadn
  clear h
  go_enter Try.func42, Try.ntmps42
  go_wp2_with (first
    | (go_at_call 18; refine (word_any b P L a _ H.out a0 a1).mono ?_; rw [hw]; rintro e w1 ⟨rfl, hb⟩; have HB : Hid (Below w.heap.size w w1) := hb; clear hb)
    | (go_at_call 68; refine (dev_2 b P L a _ (H.out.below HB.out) hk).mono ?_; rintro e w2 ⟨rfl, hb⟩; have HB2 : Hid (Below w.heap.size w w2) := HB.out.trans (hb.mono HB.out.size); clear hb)
    | (go_at_call 59; refine (status_any b P L _ (H.out.below HB2.out)).mono ?_; rw [if_pos hI]; rintro e w3 ⟨rfl, hw3⟩; obtain rfl := hw3.symm))
  go_ret2
  exact ⟨rfl, P, Stp.below H.out HB2.out⟩
set_option maxHeartbeats 1000000 in
theorem loadWord_2f (b : Nat) (P : Ph) (L : Lg) (a : Int) (w : World) (h : Bus w b P L) (a0 : 0 ≤ a) (a1 : a ≤ 4294967295) (hw : isW a = false) (hk : devN a = 2) (hI : ¬ L.I = []) : Calls Try.prog 42 #[.pointer (some ⟨b, 0, none⟩), .int .u32 a] w fun e w' => e = .returned (.tuple #[.int .u32 3, .int .i64 0]) ∧ ∃ P', Stp w b P w' P' L := by
  have H : Hid (Bus w b P L) := h
  have q1 := field_load
  have q2 := neq_load
  have q3 := neq_loadn
  clear h
  go_enter Try.func42, Try.ntmps42
  go_wp2_with (first
    | (go_at_call 18; refine (word_any b P L a _ H.out a0 a1).mono ?_; rw [hw]; rintro e w1 ⟨rfl, hb⟩; have HB : Hid (Below w.heap.size w w1) := hb; clear hb)
    | (go_at_call 68; refine (dev_2 b P L a _ (H.out.below HB.out) hk).mono ?_; rintro e w2 ⟨rfl, hb⟩; have HB2 : Hid (Below w.heap.size w w2) := HB.out.trans (hb.mono HB.out.size); clear hb)
    | (go_at_call 59; refine (status_any b P L _ (H.out.below HB2.out)).mono ?_; rw [if_neg hI]; rintro e w3 ⟨rfl, hw3⟩; obtain rfl := hw3.symm))
  go_ret2
  exact ⟨rfl, P, Stp.below H.out HB2.out⟩
set_option maxHeartbeats 1000000 in
theorem loadWord_3 (b : Nat) (P : Ph) (L : Lg) (a : Int) (w : World) (h : Bus w b P L) (a0 : 0 ≤ a) (a1 : a ≤ 4294967295) (hw : isW a = false) (hk : devN a = 3) : Calls Try.prog 42 #[.pointer (some ⟨b, 0, none⟩), .int .u32 a] w fun e w' => e = .returned (.tuple #[.int .u32 L.sc, .int .i64 0]) ∧ ∃ P', Stp w b P w' P' L := by
  have H : Hid (Bus w b P L) := h
  have q1 := field_load
  have q2 := neq_load
  have q3 := neq_loadn
  clear h
  go_enter Try.func42, Try.ntmps42
  go_wp2_with (first
    | (go_at_call 18; refine (word_any b P L a _ H.out a0 a1).mono ?_; rw [hw]; rintro e w1 ⟨rfl, hb⟩; have HB : Hid (Below w.heap.size w w1) := hb; clear hb)
    | (go_at_call 68; refine (dev_3 b P L a _ (H.out.below HB.out) hk).mono ?_; rintro e w2 ⟨rfl, hb⟩; have HB2 : Hid (Below w.heap.size w w2) := HB.out.trans (hb.mono HB.out.size); clear hb)
    | (go_at_call 60; refine (sector_any b P L _ (H.out.below HB2.out)).mono ?_; rintro e w3 ⟨rfl, hw3⟩; obtain rfl := hw3.symm))
  go_ret2
  exact ⟨rfl, P, Stp.below H.out HB2.out⟩
set_option maxHeartbeats 1000000 in
theorem loadWord_4 (b : Nat) (P : Ph) (L : Lg) (a : Int) (w : World) (h : Bus w b P L) (a0 : 0 ≤ a) (a1 : a ≤ 4294967295) (hw : isW a = false) (hk : devN a = 4) : Calls Try.prog 42 #[.pointer (some ⟨b, 0, none⟩), .int .u32 a] w fun e w' => e = .returned (.tuple #[.int .u32 L.ad, .int .i64 0]) ∧ ∃ P', Stp w b P w' P' L := by
  have H : Hid (Bus w b P L) := h
  have q1 := field_load
  have q2 := neq_load
  have q3 := neq_loadn
  clear h
  go_enter Try.func42, Try.ntmps42
  go_wp2_with (first
    | (go_at_call 18; refine (word_any b P L a _ H.out a0 a1).mono ?_; rw [hw]; rintro e w1 ⟨rfl, hb⟩; have HB : Hid (Below w.heap.size w w1) := hb; clear hb)
    | (go_at_call 68; refine (dev_4 b P L a _ (H.out.below HB.out) hk).mono ?_; rintro e w2 ⟨rfl, hb⟩; have HB2 : Hid (Below w.heap.size w w2) := HB.out.trans (hb.mono HB.out.size); clear hb)
    | (go_at_call 62; refine (address_any b P L _ (H.out.below HB2.out)).mono ?_; rintro e w3 ⟨rfl, hw3⟩; obtain rfl := hw3.symm))
  go_ret2
  exact ⟨rfl, P, Stp.below H.out HB2.out⟩
set_option maxHeartbeats 1000000 in
theorem loadWord_5 (b : Nat) (P : Ph) (L : Lg) (a : Int) (w : World) (h : Bus w b P L) (a0 : 0 ≤ a) (a1 : a ≤ 4294967295) (hw : isW a = false) (hk : devN a = 5) : Calls Try.prog 42 #[.pointer (some ⟨b, 0, none⟩), .int .u32 a] w fun e w' => e = .returned (.tuple #[.int .u32 L.cm, .int .i64 0]) ∧ ∃ P', Stp w b P w' P' L := by
  have H : Hid (Bus w b P L) := h
  have q1 := field_load
  have q2 := neq_load
  have q3 := neq_loadn
  clear h
  go_enter Try.func42, Try.ntmps42
  go_wp2_with (first
    | (go_at_call 18; refine (word_any b P L a _ H.out a0 a1).mono ?_; rw [hw]; rintro e w1 ⟨rfl, hb⟩; have HB : Hid (Below w.heap.size w w1) := hb; clear hb)
    | (go_at_call 68; refine (dev_5 b P L a _ (H.out.below HB.out) hk).mono ?_; rintro e w2 ⟨rfl, hb⟩; have HB2 : Hid (Below w.heap.size w w2) := HB.out.trans (hb.mono HB.out.size); clear hb)
    | (go_at_call 64; refine (commandL_any b P L _ (H.out.below HB2.out)).mono ?_; rintro e w3 ⟨rfl, hw3⟩; obtain rfl := hw3.symm))
  go_ret2
  exact ⟨rfl, P, Stp.below H.out HB2.out⟩
set_option maxHeartbeats 1000000 in
theorem loadWord_6 (b : Nat) (P : Ph) (L : Lg) (a : Int) (w : World) (h : Bus w b P L) (a0 : 0 ≤ a) (a1 : a ≤ 4294967295) (hw : isW a = false) (hk : devN a = 6) : Calls Try.prog 42 #[.pointer (some ⟨b, 0, none⟩), .int .u32 a] w fun e w' => e = .returned (.tuple #[.int .u32 L.n, .int .i64 0]) ∧ ∃ P', Stp w b P w' P' L := by
  have H : Hid (Bus w b P L) := h
  have q1 := field_load
  have q2 := neq_load
  have q3 := neq_loadn
  clear h
  go_enter Try.func42, Try.ntmps42
  go_wp2_with (first
    | (go_at_call 18; refine (word_any b P L a _ H.out a0 a1).mono ?_; rw [hw]; rintro e w1 ⟨rfl, hb⟩; have HB : Hid (Below w.heap.size w w1) := hb; clear hb)
    | (go_at_call 68; refine (dev_6 b P L a _ (H.out.below HB.out) hk).mono ?_; rintro e w2 ⟨rfl, hb⟩; have HB2 : Hid (Below w.heap.size w w2) := HB.out.trans (hb.mono HB.out.size); clear hb)
    | (go_at_call 66; refine (sectors_any b P L _ (H.out.below HB2.out)).mono ?_; rintro e w3 ⟨rfl, hw3⟩; obtain rfl := hw3.symm))
  go_ret2
  exact ⟨rfl, P, Stp.below H.out HB2.out⟩
set_option maxHeartbeats 1000000 in
theorem loadWord_1e (b : Nat) (P : Ph) (L : Lg) (a : Int) (w : World) (h : Bus w b P L) (a0 : 0 ≤ a) (a1 : a ≤ 4294967295) (hw : isW a = false) (hk : devN a = 1) (hI : L.I = []) : Calls Try.prog 42 #[.pointer (some ⟨b, 0, none⟩), .int .u32 a] w fun e w' => e = .returned (.tuple #[.int .u32 0, .int .i64 2]) ∧ ∃ P', Stp w b P w' P' L := by
  have H : Hid (Bus w b P L) := h
  have q1 := field_load
  have q2 := neq_load
  have q3 := neq_loadn
  clear h
  go_enter Try.func42, Try.ntmps42
  go_wp2_with (first
    | (go_at_call 18; refine (word_any b P L a _ H.out a0 a1).mono ?_; rw [hw]; rintro e w1 ⟨rfl, hb⟩; have HB : Hid (Below w.heap.size w w1) := hb; clear hb)
    | (go_at_call 68; refine (dev_1 b P L a _ (H.out.below HB.out) hk).mono ?_; rintro e w2 ⟨rfl, hb⟩; have HB2 : Hid (Below w.heap.size w w2) := HB.out.trans (hb.mono HB.out.size); clear hb)
    | (go_at_call 57; refine (take_none b P L _ (H.out.below HB2.out) hI).mono ?_; rintro e w3 ⟨rfl, hw3⟩; obtain rfl := hw3.symm))
  go_ret2
  exact ⟨rfl, P, Stp.below H.out HB2.out⟩
set_option maxHeartbeats 1000000 in
theorem loadWord_1f (b : Nat) (P : Ph) (L : Lg) (a : Int) (w : World) (h : Bus w b P L) (a0 : 0 ≤ a) (a1 : a ≤ 4294967295) (hw : isW a = false) (hk : devN a = 1) (x : Int) (r : List Int) (hI : L.I = x :: r) : Calls Try.prog 42 #[.pointer (some ⟨b, 0, none⟩), .int .u32 a] w fun e w' => e = .returned (.tuple #[.int .u32 x, .int .i64 0]) ∧ ∃ P', Stp w b P w' P' { L with I := r } := by
  have H : Hid (Bus w b P L) := h
  have q1 := field_load
  have q2 := neq_load
  have q3 := neq_loadn
  clear h
  go_enter Try.func42, Try.ntmps42
  go_wp2_with (first
    | (go_at_call 18; refine (word_any b P L a _ H.out a0 a1).mono ?_; rw [hw]; rintro e w1 ⟨rfl, hb⟩; have HB : Hid (Below w.heap.size w w1) := hb; clear hb)
    | (go_at_call 68; refine (dev_1 b P L a _ (H.out.below HB.out) hk).mono ?_; rintro e w2 ⟨rfl, hb⟩; have HB2 : Hid (Below w.heap.size w w2) := HB.out.trans (hb.mono HB.out.size); clear hb)
    | (go_at_call 57; refine (take_one b P L _ x r (H.out.below HB2.out) hI).mono ?_; rintro e w3 ⟨rfl, P', hS⟩))
  go_ret2
  exact ⟨rfl, P', (Stp.below H.out HB2.out).trans hS⟩
set_option maxHeartbeats 1000000 in
theorem loadWord_7 (b : Nat) (P : Ph) (L : Lg) (a : Int) (w : World) (h : Bus w b P L) (a0 : 0 ≤ a) (a1 : a ≤ 4294967295) (hw : isW a = false) (hk : devN a = 7) : Calls Try.prog 42 #[.pointer (some ⟨b, 0, none⟩), .int .u32 a] w fun e w' => e = .returned (.tuple #[.int .u32 0, .int .i64 1]) ∧ ∃ P', Stp w b P w' P' L := by
  have H : Hid (Bus w b P L) := h
  have q1 := field_load
  have q2 := neq_load
  have q3 := neq_loadn
  clear h
  go_enter Try.func42, Try.ntmps42
  go_wp2_with (first
    | (go_at_call 18; refine (word_any b P L a _ H.out a0 a1).mono ?_; rw [hw]; rintro e w1 ⟨rfl, hb⟩; have HB : Hid (Below w.heap.size w w1) := hb; clear hb)
    | (go_at_call 68; refine (dev_7 b P L a _ (H.out.below HB.out) hk).mono ?_; rintro e w2 ⟨rfl, hb⟩; have HB2 : Hid (Below w.heap.size w w2) := HB.out.trans (hb.mono HB.out.size); clear hb))
  go_ret2
  exact ⟨rfl, P, Stp.below H.out HB2.out⟩
theorem loadWord_any (b : Nat) (P : Ph) (L : Lg) (a : Int) (w : World) (h : Bus w b P L) (a0 : 0 ≤ a) (a1 : a ≤ 4294967295) : Calls Try.prog 42 #[.pointer (some ⟨b, 0, none⟩), .int .u32 a] w fun e w' => e = .returned (.tuple #[.int .u32 (L.load a).1.1, .int .i64 (L.load a).1.2]) ∧ ∃ P', Stp w b P w' P' (L.load a).2 := by
  unfold Lg.load
  by_cases hw : isW a = true
  · rw [if_pos hw]; exact loadWord_mem b P L a w h a0 a1 hw
  · rw [if_neg hw]
    have hw : isW a = false := by simpa using hw
    have h7 := devN_le a
    have hk : devN a = 0 ∨ devN a = 1 ∨ devN a = 2 ∨ devN a = 3 ∨ devN a = 4 ∨ devN a = 5 ∨ devN a = 6 ∨ devN a = 7 := by omega
    rcases hk with hk | hk | hk | hk | hk | hk | hk | hk <;> rw [hk]
    · exact loadWord_0 b P L a w h a0 a1 hw hk
    · unfold Lg.dev
      rcases hI : L.I with _ | ⟨x, r⟩
      · exact loadWord_1e b P L a w h a0 a1 hw hk hI
      · exact loadWord_1f b P L a w h a0 a1 hw hk x r hI
    · unfold Lg.dev
      by_cases hI : L.I = []
      · rw [if_pos hI]; exact loadWord_2e b P L a w h a0 a1 hw hk hI
      · rw [if_neg hI]; exact loadWord_2f b P L a w h a0 a1 hw hk hI
    · exact loadWord_3 b P L a w h a0 a1 hw hk
    · exact loadWord_4 b P L a w h a0 a1 hw hk
    · exact loadWord_5 b P L a w h a0 a1 hw hk
    · exact loadWord_6 b P L a w h a0 a1 hw hk
    · exact loadWord_7 b P L a w h a0 a1 hw hk
end Go.Proofs.Ytbkkjnafnckleaa
