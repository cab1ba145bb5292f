/-
  The document's devices: what is fed, what is loaded.
-/
import Derived.Test.YtbkkjnafnckleaaRPlain
import Derived.Lib.Strings
namespace Go.Proofs.Ytbkkjnafnckleaa
open Go.ChangeShapes Go.WideShapes Go.ChangeAt Go.RowKit
attribute [local go_sem ↓] loadSec_seal storeSec_seal eqlSec_seal zeroSec
attribute [local go_sem] loadSec_run storeSec_run rowAt_at rowAt_old rowAt_drew rowAt_drewN roomSec_new roomAt_old roomAt_drew roomAt_drewN putSec_new putRow_past rowSec_put size_put putRow_drew putRow_drewN alloc_drewN setCell_drewN sec_size

set_option linter.unusedVariables false

theorem bytesL_app (s t : ByteArray) : bytesL (s ++ t) = bytesL s ++ bytesL t := by
  unfold bytesL
  rw [ByteArray.data_append]
  simp
theorem rfeed_full (r : Nat) (P : RPh) (L : Lg) (s : ByteArray) (w : World) (h : RBus w r P L) (hs : s.size ≤ maxLen) (hf : 65536 < s.size + L.I.length) : Calls Try.prog 31 #[.pointer (some ⟨r, 0, none⟩), .string s] w fun e w' => e = .returned (.int .i64 40) ∧ w' = w := by
  have c2 := h.eight.c2
  have hl := h.il
  have hz : L.I.length = P.In.size := by rw [← h.inp, bytesL_len]
  rw [hz] at hf hl
  have h1 : (65536 : Int) - (P.In.size : Int) < (s.size : Int) := by omega
  unfold maxLen at hs
  clear h hz
  go_enter Try.func31, Try.ntmps31
  go_wp2
  go_ret
  exact ⟨rfl, rfl⟩
theorem rin_end {w : World} {r : Nat} {P : RPh} {L : Lg} (h : RBus w r P L) {In' : ByteArray} {I' : List Int} (hI : bytesL In' = I') (hl : I'.length ≤ 65536) : RStp w r P (w.setCell ⟨r, 2, none⟩ (.string In')) { P with In := In' } { L with I := I' } := by
  obtain ⟨t, ht⟩ := h.tag
  have hc : RCore w r { P with In := In' } { L with I := I' } := { h.toRCore with inp := hI, il := hl, tag := ⟨t, ⟨ht.r, ht.mb, ht.pa, ht.R⟩⟩, lt := h.lt }
  exact ⟨hc.put h.blk h.room 2 _ rfl, (Tou.refl _ _).set ⟨r, 2, none⟩ (.inl rfl) _, fun _ hx => .inl hx⟩
theorem rfeed_ok (r : Nat) (P : RPh) (L : Lg) (s : ByteArray) (w : World) (h : RBus w r P L) (hf : s.size + L.I.length ≤ 65536) : Calls Try.prog 31 #[.pointer (some ⟨r, 0, none⟩), .string s] w fun e w' => e = .returned (.int .i64 0) ∧ ∃ P', RStp w r P w' P' { L with I := L.I ++ bytesL s } := by
  have c2 := h.eight.c2
  have f2 := h.free (j := 2) (by omega)
  have hz : L.I.length = P.In.size := by rw [← h.inp, bytesL_len]
  have HE : Hid (RStp w r P (w.setCell ⟨r, 2, none⟩ (.string (P.In ++ s))) { P with In := P.In ++ s } { L with I := L.I ++ bytesL s }) := rin_end h (by rw [bytesL_app, h.inp]) (by rw [List.length_append, bytesL_len]; omega)
  rw [hz] at hf
  have h1 : ¬ (65536 : Int) - (P.In.size : Int) < (s.size : Int) := by omega
  have h2 : P.In.size + s.size ≤ 9223372036854775807 := by omega
  clear h hz
  go_enter Try.func31, Try.ntmps31
  go_wp2
  go_ret
  exact ⟨rfl, _, HE.out⟩
theorem rload_none (r : Nat) (P : RPh) (L : Lg) (w : World) (h : RBus w r P L) (hI : L.I = []) : Calls Try.prog 52 #[.pointer (some ⟨r, 0, none⟩), .int .u32 4294967236] w fun e w' => e = .returned (.tuple #[.int .u32 0, .int .i64 2]) ∧ w' = w := by
  have c2 := h.eight.c2
  have hz : P.In.size = 0 := by rw [← bytesL_len, h.inp, hI]; rfl
  have hi : P.In = ⟨#[]⟩ := ByteArray.ext (Array.eq_empty_of_size_eq_zero hz)
  rw [hi] at c2
  clear h hz hi
  go_enter Try.func52, Try.ntmps52
  go_wp2
  go_ret2
  exact ⟨rfl, rfl⟩
theorem nil_empty {s : ByteArray} (h : s.size = 0) : s.toList.isEmpty = true := by
  rw [ByteArray.toList_eq]
  have : s.data.toList.length = 0 := by simpa using h
  simp [List.length_eq_zero_iff.1 this]
theorem some_empty {s : ByteArray} (h : 0 < s.size) : s.toList.isEmpty = false := by
  rw [ByteArray.toList_eq]
  have : 0 < s.data.toList.length := by simpa using h
  cases hl : s.data.toList with
  | nil => rw [hl] at this; simp at this
  | cons _ _ => rfl
theorem bytesL_head {s : ByteArray} {x : Int} {rr : List Int} (h : bytesL s = x :: rr) (hz : 0 < s.size) : ((s[0]'hz).toNat : Int) = x ∧ ∀ n, n = s.size → bytesL (s.extract 1 n) = rr := by
  unfold bytesL at h
  have h0 := congrArg (fun l => l[0]?) h
  refine ⟨?_, fun n hn => ?_⟩
  · have e : s.data.toList[0]? = some (s[0]'hz) := by
      have : 0 < s.data.toList.length := by simpa using hz
      rw [List.getElem?_eq_getElem this]; rfl
    simp only [List.getElem?_map, e] at h0
    simpa using h0
  · subst hn
    unfold bytesL
    rw [Lib.extract_data, List.take_of_length_le (by simp), List.map_drop, h]; rfl
theorem rload_some (r : Nat) (P : RPh) (L : Lg) (w : World) (x : Int) (rr : List Int) (h : RBus w r P L) (hI : L.I = x :: rr) : Calls Try.prog 52 #[.pointer (some ⟨r, 0, none⟩), .int .u32 4294967236] w fun e w' => e = .returned (.tuple #[.int .u32 x, .int .i64 0]) ∧ ∃ P', RStp w r P w' P' { L with I := rr } := by
  have c2 := h.eight.c2
  have f2 := h.free (j := 2) (by omega)
  have hz : P.In.size = rr.length + 1 := by rw [← bytesL_len, h.inp, hI]; rfl
  have hb := bytesL_head (h.inp.trans hI) (by omega)
  have hl := h.il
  rw [hI] at hl
  simp only [List.length_cons] at hl
  have HX : Hid (∀ hz, ((P.In[0]'hz).toNat : Int) = x) := fun _ => hb.1
  have HE : Hid (RStp w r P (w.setCell ⟨r, 2, none⟩ (.string (P.In.extract 1 (rr.length + 1)))) { P with In := P.In.extract 1 (rr.length + 1) } { L with I := rr }) := rin_end h (hb.2 _ hz.symm) (by omega)
  have HB : Hid (0 ≤ x ∧ x ≤ 255) := by
    show 0 ≤ x ∧ x ≤ 255
    exact bytesL_byte P.In x (by rw [h.inp, hI]; simp)
  have hem : P.In.toList.isEmpty = false := some_empty (by omega)
  clear h hb hI
  go_enter Try.func52, Try.ntmps52
  go_wp2
  go_ret2
  exact ⟨ret2i (by have := HX.out (by omega); have := HB.out; omega) rfl, _, HE.out⟩
theorem rload_0 (r : Nat) (P : RPh) (L : Lg) (w : World) (h : RBus w r P L) : Calls Try.prog 52 #[.pointer (some ⟨r, 0, none⟩), .int .u32 4294967232] w fun e w' => e = .returned (.tuple #[.int .u32 L.tk, .int .i64 0]) ∧ w' = w := by
  have c2 := h.eight.c4
  clear h
  go_enter Try.func52, Try.ntmps52
  go_wp2
  go_ret2
  exact ⟨rfl, rfl⟩
theorem rload_3 (r : Nat) (P : RPh) (L : Lg) (w : World) (h : RBus w r P L) : Calls Try.prog 52 #[.pointer (some ⟨r, 0, none⟩), .int .u32 4294967244] w fun e w' => e = .returned (.tuple #[.int .u32 L.sc, .int .i64 0]) ∧ w' = w := by
  have c2 := h.eight.c5
  clear h
  go_enter Try.func52, Try.ntmps52
  go_wp2
  go_ret2
  exact ⟨rfl, rfl⟩
theorem rload_4 (r : Nat) (P : RPh) (L : Lg) (w : World) (h : RBus w r P L) : Calls Try.prog 52 #[.pointer (some ⟨r, 0, none⟩), .int .u32 4294967248] w fun e w' => e = .returned (.tuple #[.int .u32 L.ad, .int .i64 0]) ∧ w' = w := by
  have c2 := h.eight.c6
  clear h
  go_enter Try.func52, Try.ntmps52
  go_wp2
  go_ret2
  exact ⟨rfl, rfl⟩
theorem rload_5 (r : Nat) (P : RPh) (L : Lg) (w : World) (h : RBus w r P L) : Calls Try.prog 52 #[.pointer (some ⟨r, 0, none⟩), .int .u32 4294967252] w fun e w' => e = .returned (.tuple #[.int .u32 L.cm, .int .i64 0]) ∧ w' = w := by
  have c2 := h.eight.c7
  clear h
  go_enter Try.func52, Try.ntmps52
  go_wp2
  go_ret2
  exact ⟨rfl, rfl⟩
theorem rload_2 (r : Nat) (P : RPh) (L : Lg) (w : World) (h : RBus w r P L) : Calls Try.prog 52 #[.pointer (some ⟨r, 0, none⟩), .int .u32 4294967240] w fun e w' => e = .returned (.tuple #[.int .u32 (if L.I = [] then 2 else 3), .int .i64 0]) ∧ w' = w := by
  have c2 := h.eight.c2
  have hz : L.I.length = P.In.size := by rw [← h.inp, bytesL_len]
  clear h
  by_cases hI : L.I = []
  · have hem : P.In.toList.isEmpty = true := nil_empty (by rw [← hz, hI]; rfl)
    rw [if_pos hI]
    clear hz hI
    go_enter Try.func52, Try.ntmps52
    go_wp2
    go_ret2
    exact ⟨rfl, rfl⟩
  · have hem : P.In.toList.isEmpty = false := some_empty (by rw [← hz]; exact List.length_pos_iff.2 hI)
    rw [if_neg hI]
    clear hz hI
    go_enter Try.func52, Try.ntmps52
    go_wp2
    go_ret2
    exact ⟨rfl, rfl⟩
theorem rload_6 (r : Nat) (P : RPh) (L : Lg) (w : World) (h : RBus w r P L) : Calls Try.prog 52 #[.pointer (some ⟨r, 0, none⟩), .int .u32 4294967256] w fun e w' => e = .returned (.tuple #[.int .u32 L.n, .int .i64 0]) ∧ w' = w := by
  have c2 := h.eight.c1
  have H : Hid (RBus w r P L) := h
  have HN : Hid (P.R.n = L.n) := h.dn
  have n1 := h.dsk.n1
  clear h
  go_enter Try.func52, Try.ntmps52
  go_wp2_with (go_at_call 11; refine (rsecs_any P.rd P.R _ H.out.dsk).mono ?_; rintro e w1 ⟨rfl, hw⟩; obtain rfl := hw.symm)
  go_ret2
  exact ⟨by rw [← HN.out]; rfl, rfl⟩
theorem rload_7 (r : Nat) (P : RPh) (L : Lg) (a : Int) (w : World) (hk : devN a = 7) : Calls Try.prog 52 #[.pointer (some ⟨r, 0, none⟩), .int .u32 a] w fun e w' => e = .returned (.tuple #[.int .u32 0, .int .i64 1]) ∧ w' = w := by
  have hd : ¬ a = 4294967232 ∧ ¬ a = 4294967236 ∧ ¬ a = 4294967240 ∧ ¬ a = 4294967244 ∧ ¬ a = 4294967248 ∧ ¬ a = 4294967252 ∧ ¬ a = 4294967256 := by
    refine ⟨fun e => ?_, fun e => ?_, fun e => ?_, fun e => ?_, fun e => ?_, fun e => ?_, fun e => ?_⟩ <;> (rw [e] at hk; exact absurd hk (by decide))
  obtain ⟨d0, d1, d2, d3, d4, d5, d6⟩ := hd
  clear hk
  go_enter Try.func52, Try.ntmps52
  go_wp2
  go_ret2
  exact ⟨rfl, rfl⟩
theorem dev_const (a : Int) : (devN a = 0 → a = 4294967232) ∧ (devN a = 1 → a = 4294967236) ∧ (devN a = 2 → a = 4294967240) ∧ (devN a = 3 → a = 4294967244) ∧ (devN a = 4 → a = 4294967248) ∧ (devN a = 5 → a = 4294967252) ∧ (devN a = 6 → a = 4294967256) := by
  unfold devN
  repeat (first | omega | split)
theorem rloaded_any (r : Nat) (P : RPh) (L : Lg) (a : Int) (w : World) (h : RBus w r P L) : Calls Try.prog 52 #[.pointer (some ⟨r, 0, none⟩), .int .u32 a] w fun e w' => e = .returned (.tuple #[.int .u32 (L.dev (devN a)).1.1, .int .i64 (L.dev (devN a)).1.2]) ∧ ∃ P', RStp w r P w' P' (L.dev (devN a)).2 := by
  have h7 := devN_le a
  have hc := dev_const a
  have stay : ∀ {x y : Int}, (Calls Try.prog 52 #[.pointer (some ⟨r, 0, none⟩), .int .u32 a] w fun e w' => e = .returned (.tuple #[.int .u32 x, .int .i64 y]) ∧ w' = w) → (Calls Try.prog 52 #[.pointer (some ⟨r, 0, none⟩), .int .u32 a] w fun e w' => e = .returned (.tuple #[.int .u32 x, .int .i64 y]) ∧ ∃ P', RStp w r P w' P' L) := fun hh => hh.mono fun e w' ⟨he, hw⟩ => ⟨he, P, by rw [hw]; exact RStp.refl h⟩
  have hk : devN a = 0 ∨ devN a = 1 ∨ devN a = 2 ∨ devN a = 3 ∨ devN a = 4 ∨ devN a = 5 ∨ devN a = 6 ∨ devN a = 7 := by omega
  rcases hk with hk | hk | hk | hk | hk | hk | hk | hk
  · have e := hc.1 hk; rw [hk]; subst e; exact stay (rload_0 r P L w h)
  · have e := hc.2.1 hk; rw [hk]; subst e
    unfold Lg.dev
    rcases hI : L.I with _ | ⟨x, rr⟩
    · exact stay (rload_none r P L w h hI)
    · exact rload_some r P L w x rr h hI
  · have e := hc.2.2.1 hk; rw [hk]; subst e; exact stay (rload_2 r P L w h)
  · have e := hc.2.2.2.1 hk; rw [hk]; subst e; exact stay (rload_3 r P L w h)
  · have e := hc.2.2.2.2.1 hk; rw [hk]; subst e; exact stay (rload_4 r P L w h)
  · have e := hc.2.2.2.2.2.1 hk; rw [hk]; subst e; exact stay (rload_5 r P L w h)
  · have e := hc.2.2.2.2.2.2 hk; rw [hk]; subst e; exact stay (rload_6 r P L w h)
  · rw [hk]; exact stay (rload_7 r P L a w hk)
end Go.Proofs.Ytbkkjnafnckleaa
