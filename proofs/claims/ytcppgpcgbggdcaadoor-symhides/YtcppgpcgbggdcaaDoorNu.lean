/-
  Layer 7's numbers and texts: what Uint and Text, the program's and the document's, read at any place of any row of bytes.
-/
import Derived.Test.YtcppgpcgbggdcaaDoorNb
import Derived.Laws.Bits64b
namespace Go.Proofs.YtcppgpcgbggdcaaDoor
set_option linter.unusedVariables false
set_option linter.unusedSimpArgs false
open Go.ChangeShapes Go.WideShapes Go.ChangeAt Go.RowKit

/-- A number read from groups: k more of them may be, i were read, which came to acc; of g there are as many as avail. -/
def rdU (g : Nat → Int) (avail : Nat) : Nat → Nat → Int → Option (Int × Nat)
  | 0, _, _ => none
  | k + 1, i, acc => if avail ≤ i then none else if 128 ≤ g i then rdU g avail k (i + 1) (acc + g i % 128 * 128 ^ i)
    else if 4294967295 < acc + g i % 128 * 128 ^ i ∨ (g i = 0 ∧ 0 < i) then none else some (acc + g i % 128 * 128 ^ i, i + 1)
def uintR (f : Nat → Int) (len : Nat) (at_ : Int) : Option (Int × Nat) :=
  if 0 ≤ at_ ∧ at_ ≤ len then rdU (fun j => f (at_.toNat + j)) (len - at_.toNat) 5 0 0 else none
def uN (r : Option (Int × Nat)) : Int := match r with | none => 0 | some (n, _) => n
def uP (at_ : Int) (r : Option (Int × Nat)) : Int := match r with | none => 0 | some (_, i) => at_ + i
def uB (r : Option (Int × Nat)) : Bool := r.isSome

theorem ret3u {a a' b b' : Int} {c c' : Bool} (h : a = a') (g : b = b') (k : c = c') : Ending.returned (.tuple #[.int .u32 a, .int .i64 b, .bool c]) = .returned (.tuple #[.int .u32 a', .int .i64 b', .bool c']) := by rw [h, g, k]
theorem u8_facts : ((List.range 256).all fun c => bits .and .u8 (c : Int) 127 == (c : Int) % 128 && (bits .and .u8 (c : Int) 128 != 0) == decide (128 ≤ (c : Int))) = true := by kernel_rfl
theorem and127 (c : Int) (h0 : 0 ≤ c) (h1 : c ≤ 255) : bits .and .u8 c 127 = c % 128 ∧ (bits .and .u8 c 128 != 0) = decide (128 ≤ c) := by
  obtain ⟨m, rfl⟩ := Int.eq_ofNat_of_zero_le h0
  have := List.all_eq_true.1 u8_facts m (by simp; omega)
  simpa using this
theorem or_place64 (T x : Int) (s : Nat) (hT0 : 0 ≤ T) (hT : T < 2 ^ s) (hT1 : T < 18446744073709551616) (hx0 : 0 ≤ x) (hx : x * 2 ^ s < 18446744073709551616) : bits .or .u64 T (x * 2 ^ s) = T + x * 2 ^ s := by
  obtain ⟨t, rfl⟩ := Int.eq_ofNat_of_zero_le hT0
  obtain ⟨y, rfl⟩ := Int.eq_ofNat_of_zero_le hx0
  have e : (y : Int) * 2 ^ s = ((y * 2 ^ s : Nat) : Int) := by simp
  have e2 : (2 : Int) ^ s = ((2 ^ s : Nat) : Int) := by simp
  rw [e] at hx
  rw [e2] at hT
  rw [e, bits_or_u64_nat _ _ (by omega) (by omega), Nat.or_comm, Nat.mul_comm, ← Nat.two_pow_add_eq_or_of_lt (by omega)]
  simp; omega
theorem pow7 (i : Nat) (h : i ≤ 5) : (128 : Int) ^ i = 2 ^ (7 * i) ∧ 1 ≤ (128 : Int) ^ i ∧ (128 : Int) ^ i ≤ 34359738368 := by
  refine ⟨by rw [Int.pow_mul]; rfl, ?_⟩
  have : i = 0 ∨ i = 1 ∨ i = 2 ∨ i = 3 ∨ i = 4 ∨ i = 5 := by omega
  rcases this with rfl | rfl | rfl | rfl | rfl | rfl <;> decide
theorem mul_le_128 (c P : Int) (h0 : 0 ≤ c) (h1 : c ≤ 127) (hP : 0 ≤ P) : 0 ≤ c * P ∧ c * P ≤ 127 * P := ⟨Int.mul_nonneg h0 hP, Int.mul_le_mul_of_nonneg_right h1 hP⟩
theorem groups_or (acc c : Int) (i : Nat) (a0 : 0 ≤ acc) (a1 : acc < 128 ^ i) (c0 : 0 ≤ c) (c1 : c ≤ 255) (hi : i ≤ 4) :
    bits .or .u64 acc (IntKind.u64.wrap (IntKind.u64.wrap (bits .and .u8 c 127) * 2 ^ (7 * i))) = acc + c % 128 * 128 ^ i ∧ 0 ≤ acc + c % 128 * 128 ^ i ∧ acc + c % 128 * 128 ^ i < 128 ^ (i + 1) := by
  obtain ⟨p1, p2, p3⟩ := pow7 i (by omega)
  have hm := mul_le_128 (c % 128) (128 ^ i) (by omega) (by omega) (by omega)
  have p4 : (128 : Int) ^ (i + 1) = 128 * 128 ^ i := by rw [Int.pow_succ]; exact Int.mul_comm _ _
  rw [(and127 c c0 c1).1, wrap_u64, wrap_u64, show c % 128 % 18446744073709551616 = c % 128 by omega, ← p1]
  have hx : c % 128 * 128 ^ i < 18446744073709551616 := by omega
  rw [show c % 128 * 128 ^ i % 18446744073709551616 = c % 128 * 128 ^ i by omega]
  refine ⟨?_, by omega, by omega⟩
  rw [p1] at hx ⊢
  exact or_place64 _ _ _ a0 (by rw [← p1]; exact a1) (by omega) (by omega) hx

set_option maxHeartbeats 2000000 in
theorem uint_any (a : Option Addr) (len cap : Nat) (f : Nat → Int) (at_ : Int) (w : World) (h : Src w a len cap f) (hc : len ≤ cap) :
    Calls Tryd.prog 101 #[.slice a len cap, .int .i64 at_] w fun e w' => e = .returned (.tuple #[.int .u32 (uN (uintR f len at_)), .int .i64 (uP at_ (uintR f len at_)), .bool (uB (uintR f len at_))]) ∧ w' = w := by
  by_cases hat : 0 ≤ at_ ∧ at_ ≤ len
  · have hR : uintR f len at_ = rdU (fun j => f (at_.toNat + j)) (len - at_.toNat) 5 0 0 := if_pos hat
    rw [hR]
    obtain ⟨p, rfl⟩ := Int.eq_ofNat_of_zero_le hat.1
    have hp : p ≤ len := by omega
    rw [Int.toNat_natCast]
    have hfit := h.fit
    have hd1 : decide ((p : Int) < 0) = false := by simp
    have hd2 : decide ((len : Int) < (p : Int)) = false := by simp; omega
    have hd3 : decide (len < p) = false := by simp; omega
    by_cases hpl : p = len
    · subst hpl
      have hR0 : rdU (fun j => f (p + j)) (p - p) 5 0 0 = none := by simp [rdU]
      rw [hR0]
      clear hR h hR0
      by_cases hcp : cap = p
      · subst hcp
        go_enter Tryd.func101, Tryd.ntmps101
        go_wp2
        go_loopw [22] (fun x wr => x = .int .i64 0 ∧ wr = w) (fun _ _ => 0)
        case atStart => exact ⟨rfl, rfl⟩
        case round =>
          obtain ⟨rfl, rfl⟩ := hrel
          go_wp2
          go_ret3
          exact ⟨rfl, rfl⟩
      · go_enter Tryd.func101, Tryd.ntmps101
        go_wp2
        go_loopw [22] (fun x wr => x = .int .i64 0 ∧ wr = w) (fun _ _ => 0)
        case atStart => exact ⟨rfl, rfl⟩
        case round =>
          obtain ⟨rfl, rfl⟩ := hrel
          go_wp2
          go_ret3
          exact ⟨rfl, rfl⟩
    · rcases h.rd.2 with h0 | ⟨b, off, rfl, hcell⟩
      · omega
      · have hg : ∀ i, i < len - p → w.cell? ⟨b, off + p + i, none⟩ = some (.int .u8 (f (p + i))) ∧ 0 ≤ f (p + i) ∧ f (p + i) ≤ 255 := fun i hi => by
          have := hcell (p + i) (by omega)
          rw [← Nat.add_assoc] at this
          exact this
        generalize hgg : (fun j => f (p + j)) = g
        have hg2 : ∀ i, i < len - p → w.cell? ⟨b, off + p + i, none⟩ = some (.int .u8 (g i)) ∧ 0 ≤ g i ∧ g i ≤ 255 := fun i hi => by rw [← hgg]; exact hg i hi
        have HC : Hid (∀ i, i < len - p → w.cell? ⟨b, off + p + i, none⟩ = some (.int .u8 (g i)) ∧ 0 ≤ g i ∧ g i ≤ 255) := hg2
        generalize hRR : rdU g (len - p) 5 0 0 = R
        have hcp : ¬ cap = p := by omega
        have HR : Hid (rdU g (len - p) 5 0 0 = R) := hRR
        clear hR h hg hgg hg2 hcell hRR
        go_enter Tryd.func101, Tryd.ntmps101
        go_wp2
        go_loopw [7, 22] (fun s x wr => ∃ (i : Nat) (acc : Int), x = .int .i64 i ∧ i ≤ 5 ∧ i ≤ len - p ∧ s = .int .u64 acc ∧ 0 ≤ acc ∧ acc < 128 ^ i ∧ rdU g (len - p) (5 - i) i acc = R ∧ wr = w) (fun _ x _ => len - (intOf x).toNat)
        case atStart => exact ⟨0, 0, rfl, by omega, by omega, rfl, by omega, by omega, HR.out, rfl⟩
        case round =>
          obtain ⟨i, acc, rfl, hi5, hil, rfl, a0, a1, hr, rfl⟩ := hrel
          clear HR
          by_cases hlt : i < len - p
          · obtain ⟨hc1, g0, g1⟩ := HC.out i hlt
            by_cases h5 : i = 5
            · subst h5
              have hR0 : R = none := hr.symm
              subst hR0
              clear hr
              generalize g 5 = c at hc1 g0 g1
              go_wp2
              go_ret3
              exact ⟨rfl, rfl⟩
            · obtain ⟨k, hk⟩ : ∃ k, 5 - i = k + 1 := ⟨4 - i, by omega⟩
              have hk2 : 5 - (i + 1) = k := by omega
              rw [hk, rdU, if_neg (by omega)] at hr
              generalize hgi : g i = c at hc1 g0 g1 hr
              obtain ⟨t1, t2, t3⟩ := groups_or acc c i a0 a1 g0 g1 (by omega)
              generalize acc + c % 128 * 128 ^ i = T at t1 t2 t3 hr
              obtain ⟨-, b2⟩ := and127 c g0 g1
              have HR : Hid ((if 128 ≤ c then rdU g (len - p) k (i + 1) T else if 4294967295 < T ∨ (c = 0 ∧ 0 < i) then none else some (T, i + 1)) = R) := hr
              have HT : Hid (T < 128 ^ (i + 1)) := t3
              clear hr t3
              have hne5 : ((i : Int) == 5) = false := by simp; omega
              by_cases h128 : 128 ≤ c
              · rw [decide_eq_true h128] at b2
                have hR1 : rdU g (len - p) k (i + 1) T = R := by have := HR.out; rw [if_pos h128] at this; exact this
                have HR1 : Hid (rdU g (len - p) k (i + 1) T = R) := hR1
                clear hR1 HR
                go_wp2
                refine ⟨⟨i + 1, T, by go_num, by omega, by omega, rfl, t2, HT.out, by rw [hk2]; exact HR1.out, trivial⟩, ?_⟩
                simp [intOf]; omega
              · rw [decide_eq_false h128] at b2
                have hR1 : (if 4294967295 < T ∨ (c = 0 ∧ 0 < i) then none else some (T, i + 1)) = R := by have := HR.out; rw [if_neg h128] at this; exact this
                clear HR
                by_cases hbad : 4294967295 < T
                · have hR0 : R = none := by rw [← hR1, if_pos (.inl hbad)]
                  subst hR0
                  clear hR1
                  have hdT : decide ((4294967295 : Int) < T) = true := by simp; omega
                  go_wp2
                  go_ret3
                  exact ⟨rfl, rfl⟩
                · have hdT : decide ((4294967295 : Int) < T) = false := by simp; omega
                  by_cases hz : c = 0
                  · subst hz
                    by_cases hi0 : 0 < i
                    · have hR0 : R = none := by rw [← hR1, if_pos (.inr ⟨rfl, hi0⟩)]
                      subst hR0
                      clear hR1
                      have hdi : decide ((0 : Int) < (i : Int)) = true := by simpa using hi0
                      go_wp2
                      go_ret3
                      exact ⟨rfl, rfl⟩
                    · have hR0 : R = some (T, i + 1) := by rw [← hR1, if_neg (by omega)]
                      have HR : Hid (R = some (T, i + 1)) := hR0
                      have hdi : decide ((0 : Int) < (i : Int)) = false := by simpa using hi0
                      clear hR1 hR0
                      go_wp2
                      go_ret3
                      refine ⟨?_, rfl⟩
                      rw [HR.out]
                      exact ret3u (by simp [uN]; try omega) (by simp [uP]; try omega) rfl
                  · have hR0 : R = some (T, i + 1) := by rw [← hR1, if_neg (by omega)]
                    have HR : Hid (R = some (T, i + 1)) := hR0
                    clear hR1 hR0
                    have hcz : (c == 0) = false := by simpa using hz
                    go_wp2
                    go_ret3
                    refine ⟨?_, rfl⟩
                    rw [HR.out]
                    exact ret3u (by simp [uN]; try omega) (by simp [uP]; try omega) rfl
          · have hR0 : R = none := by
              rw [← hr]
              cases h5 : 5 - i with
              | zero => rfl
              | succ k => rw [rdU, if_pos (by omega)]
            subst hR0
            clear hr
            go_wp2
            go_ret3
            exact ⟨rfl, rfl⟩
  · have hR : uintR f len at_ = none := if_neg hat
    rw [hR]
    clear hR h
    by_cases hneg : at_ < 0
    · have hd1 : decide (at_ < 0) = true := by simp; omega
      go_enter Tryd.func101, Tryd.ntmps101
      go_wp2
      go_ret3
      exact ⟨rfl, rfl⟩
    · have hd1 : decide (at_ < 0) = false := by simp; omega
      have hd2 : decide ((len : Int) < at_) = true := by simp; omega
      go_enter Tryd.func101, Tryd.ntmps101
      go_wp2
      go_ret3
      exact ⟨rfl, rfl⟩

/-! The document's. -/
set_option maxHeartbeats 2000000 in
theorem ruint_any (a : Option Addr) (len cap : Nat) (f : Nat → Int) (at_ : Int) (w : World) (h : Src w a len cap f) (hc : len ≤ cap) :
    Calls Tryd.prog 104 #[.slice a len cap, .int .i64 at_] w fun e w' => (∃ n q, e = .returned (.tuple #[.int .u32 n, .int .i64 q, .bool (uB (uintR f len at_))]) ∧ (uB (uintR f len at_) = true → n = uN (uintR f len at_) ∧ q = uP at_ (uintR f len at_))) ∧ w' = w := by
  by_cases hat : 0 ≤ at_ ∧ at_ ≤ len
  · have hR : uintR f len at_ = rdU (fun j => f (at_.toNat + j)) (len - at_.toNat) 5 0 0 := if_pos hat
    rw [hR]
    obtain ⟨p, rfl⟩ := Int.eq_ofNat_of_zero_le hat.1
    have hp : p ≤ len := by omega
    rw [Int.toNat_natCast]
    have hfit := h.fit
    have hd1 : decide ((p : Int) < 0) = false := by simp
    have hd2 : decide ((len : Int) < (p : Int)) = false := by simp; omega
    have hd3 : decide (len < p) = false := by simp; omega
    have HC : Hid (∀ i, i < len - p → ∃ b off, a = some ⟨b, off, none⟩ ∧ w.cell? ⟨b, off + (p + i), none⟩ = some (.int .u8 (f (p + i))) ∧ 0 ≤ f (p + i) ∧ f (p + i) ≤ 255) := fun i hi => by
      rcases h.rd.2 with h0 | ⟨b, off, rfl, hcell⟩
      · omega
      · exact ⟨b, off, rfl, hcell (p + i) (by omega)⟩
    generalize hRR : rdU (fun j => f (p + j)) (len - p) 5 0 0 = R
    have HR : Hid (rdU (fun j => f (p + j)) (len - p) 5 0 0 = R) := hRR
    clear hR h hRR
    go_enter Tryd.func104, Tryd.ntmps104
    go_wp2
    go_loopw [7, 8, 9] (fun s y x wr => ∃ (i : Nat) (acc : Int), x = .int .i64 i ∧ i ≤ 5 ∧ s = .int .u64 acc ∧ y = .int .u64 (128 ^ i) ∧ 0 ≤ acc ∧ acc < 128 ^ i ∧ rdU (fun j => f (p + j)) (len - p) (5 - i) i acc = R ∧ wr = w) (fun _ _ x _ => 5 - (intOf x).toNat)
    case atStart => exact ⟨0, 0, rfl, by omega, rfl, rfl, by omega, by omega, HR.out, rfl⟩
    case round =>
      obtain ⟨i, acc, rfl, hi5, rfl, rfl, a0, a1, hr, rfl⟩ := hrel
      clear HR
      by_cases h5 : i = 5
      · subst h5
        have hR0 : R = none := hr.symm
        subst hR0
        clear hr
        go_wp2
        go_ret3
        exact ⟨⟨_, _, rfl, fun h => by cases h⟩, rfl⟩
      · obtain ⟨k, hk⟩ : ∃ k, 5 - i = k + 1 := ⟨4 - i, by omega⟩
        have hk2 : 5 - (i + 1) = k := by omega
        have hd5 : decide ((i : Int) < 5) = true := by simp; omega
        by_cases hlt : i < len - p
        · have hdl : decide ((len : Int) - (p : Int) ≤ (i : Int)) = false := by simp; omega
          obtain ⟨b, off, rfl, hc1, g0, g1⟩ := HC.out i hlt
          rw [hk, rdU, if_neg (by omega)] at hr
          generalize f (p + i) = c at hc1 g0 g1 hr
          obtain ⟨-, t2, t3⟩ := groups_or acc c i a0 a1 g0 g1 (by omega)
          generalize hTT : acc + c % 128 * 128 ^ i = T at t2 t3 hr
          obtain ⟨q1, q2, q3⟩ := pow7 i (by omega)
          have q4 : (128 : Int) ^ (i + 1) = 128 ^ i * 128 := Int.pow_succ _ _
          obtain ⟨_, _, q5⟩ := pow7 (i + 1) (by omega)
          have HR : Hid ((if 128 ≤ c then rdU (fun j => f (p + j)) (len - p) k (i + 1) T else if 4294967295 < T ∨ (c = 0 ∧ 0 < i) then none else some (T, i + 1)) = R) := hr
          have HT : Hid (T < 128 ^ (i + 1)) := t3
          have w1 : IntKind.u64.wrap (acc + IntKind.u64.wrap (c % 128 * 128 ^ i)) = T := by
            have := mul_le_128 (c % 128) (128 ^ i) (by omega) (by omega) (by omega)
            rw [wrap_u64, wrap_u64, show c % 128 * 128 ^ i % 18446744073709551616 = c % 128 * 128 ^ i by omega]
            omega
          have w2 : IntKind.u64.wrap (128 ^ i * 128) = 128 ^ (i + 1) := by rw [wrap_u64, q4]; omega
          have w3 : T.tmod 4294967296 = T % 4294967296 := Int.tmod_eq_emod_of_nonneg t2
          have hpos : 1 ≤ c → c < 128 → 0 < T := fun h1 h2 => by
            have h3 : 1 * (128 : Int) ^ i ≤ c % 128 * 128 ^ i := Int.mul_le_mul_of_nonneg_right (by omega) (by omega)
            omega
          have HPS : Hid (1 ≤ c → c < 128 → 0 < T) := hpos
          clear hr t3 q1 q4 hTT hpos
          generalize (128 : Int) ^ i = P at a1 q2 q3 w1 w2
          obtain ⟨P', hP'⟩ : ∃ P', P' = (128 : Int) ^ (i + 1) := ⟨_, rfl⟩
          rw [← hP'] at w2 HT q5
          have HP : Hid (P' = (128 : Int) ^ (i + 1)) := hP'
          clear hP'
          by_cases h128 : 128 ≤ c
          · have hR1 : rdU (fun j => f (p + j)) (len - p) k (i + 1) T = R := by have := HR.out; rw [if_pos h128] at this; exact this
            have HR1 : Hid (rdU (fun j => f (p + j)) (len - p) k (i + 1) T = R) := hR1
            have hcz : (c == 0) = false := by simp; omega
            have hdc : decide (c < 128) = false := by simp; omega
            clear hR1 HR
            cases hi0 : decide ((0 : Int) < (i : Int)) <;> go_wp2 <;> go_roundw
            all_goals first
              | exact ⟨i + 1, T, by go_num, by omega, rfl, by rw [HP.out], t2, by rw [← HP.out]; exact HT.out, by rw [hk2]; exact HR1.out, by first | rfl | trivial⟩
              | (simp [intOf]; omega)
          · have hdc : decide (c < 128) = true := by simp; omega
            have hR1 : (if 4294967295 < T ∨ (c = 0 ∧ 0 < i) then none else some (T, i + 1)) = R := by have := HR.out; rw [if_neg h128] at this; exact this
            clear HR
            by_cases hz : c = 0
            · have hcz : (c == 0) = true := by simpa using hz
              have HZ : Hid (c = 0) := hz
              clear hz
              by_cases hi0 : 0 < i
              · have hR0 : R = none := by rw [← hR1, if_pos (.inr ⟨HZ.out, hi0⟩)]
                subst hR0
                clear hR1
                have hdi : decide ((0 : Int) < (i : Int)) = true := by simpa using hi0
                go_wp2
                go_ret3
                exact ⟨⟨_, _, rfl, fun h => by cases h⟩, rfl⟩
              · have hdi : decide ((0 : Int) < (i : Int)) = false := by simpa using hi0
                have hi1 : ((i : Int) == 0) = true := by simp; omega
                by_cases hbad : 4294967295 < T
                · have hR0 : R = none := by rw [← hR1, if_pos (.inl hbad)]
                  subst hR0
                  clear hR1
                  have hdT : decide (T < 4294967296) = false := by simp; omega
                  go_wp2
                  go_ret3
                  exact ⟨⟨_, _, rfl, fun h => by cases h⟩, rfl⟩
                · have hR0 : R = some (T, i + 1) := by rw [← hR1, if_neg (by omega)]
                  have HR : Hid (R = some (T, i + 1)) := hR0
                  have hdT : decide (T < 4294967296) = true := by simp; omega
                  clear hR1 hR0
                  cases h0T : decide ((0 : Int) < T) <;> go_wp2
                  all_goals go_ret3
                  all_goals refine ⟨?_, rfl⟩
                  all_goals rw [HR.out]
                  all_goals exact ⟨_, _, rfl, fun _ => ⟨by simp [uN]; try omega, by simp [uP]; try omega⟩⟩
            · have hcz : (c == 0) = false := by simpa using hz
              have h0T : decide ((0 : Int) < T) = true := by simpa using HPS.out (by omega) (by omega)
              by_cases hbad : 4294967295 < T
              · have hR0 : R = none := by rw [← hR1, if_pos (.inl hbad)]
                subst hR0
                clear hR1
                have hdT : decide (T < 4294967296) = false := by simp; omega
                cases hi0 : decide ((0 : Int) < (i : Int)) <;> go_wp2
                all_goals go_ret3
                all_goals exact ⟨⟨_, _, rfl, fun h => by cases h⟩, rfl⟩
              · have hR0 : R = some (T, i + 1) := by rw [← hR1, if_neg (by omega)]
                have HR : Hid (R = some (T, i + 1)) := hR0
                have hdT : decide (T < 4294967296) = true := by simp; omega
                clear hR1 hR0
                cases hi0 : decide ((0 : Int) < (i : Int)) <;> go_wp2
                all_goals go_ret3
                all_goals refine ⟨?_, rfl⟩
                all_goals rw [HR.out]
                all_goals exact ⟨_, _, rfl, fun _ => ⟨by simp [uN]; try omega, by simp [uP]; try omega⟩⟩
        · have hdl : decide ((len : Int) - (p : Int) ≤ (i : Int)) = true := by simp; omega
          have hR0 : R = none := by
            rw [← hr, hk, rdU, if_pos (by omega)]
          subst hR0
          clear hr
          go_wp2
          go_ret3
          exact ⟨⟨_, _, rfl, fun h => by cases h⟩, rfl⟩
  · have hR : uintR f len at_ = none := if_neg hat
    rw [hR]
    clear hR h
    by_cases hneg : at_ < 0
    · have hd1 : decide (at_ < 0) = true := by simp; omega
      go_enter Tryd.func104, Tryd.ntmps104
      go_wp2
      go_ret3
      exact ⟨⟨_, _, rfl, fun h => by cases h⟩, rfl⟩
    · have hd1 : decide (at_ < 0) = false := by simp; omega
      have hd2 : decide ((len : Int) < at_) = true := by simp; omega
      go_enter Tryd.func104, Tryd.ntmps104
      go_wp2
      go_ret3
      exact ⟨⟨_, _, rfl, fun h => by cases h⟩, rfl⟩
theorem number_any (a : Option Addr) (len cap : Nat) (f : Nat → Int) (at_ : Int) (w : World) (h : Src w a len cap f) (hc : len ≤ cap) :
    Calls Tryd.prog 93 #[.slice a len cap, .int .i64 at_] w fun e w' => e = .returned (.tuple #[.int .u32 (uN (uintR f len at_)), .int .i64 (uP at_ (uintR f len at_)), .bool (uB (uintR f len at_))]) ∧ w' = w := by
  have RU := ruint_any a len cap f at_ w h hc
  generalize uintR f len at_ = R at RU
  clear h
  cases R with
  | none =>
    have HU : Hid (Calls Tryd.prog 104 #[.slice a len cap, .int .i64 at_] w _) := RU
    clear RU
    go_enter Tryd.func93, Tryd.ntmps93
    go_wp2_with (go_at_call 104; refine HU.out.mono ?_; rintro e w1 ⟨⟨n, q, rfl, -⟩, rfl⟩; have hb0 : uB (none : Option (Int × Nat)) = false := rfl; rw [hb0])
    go_ret3
    exact ⟨rfl, rfl⟩
  | some x =>
    have HU : Hid (Calls Tryd.prog 104 #[.slice a len cap, .int .i64 at_] w _) := RU
    clear RU
    go_enter Tryd.func93, Tryd.ntmps93
    go_wp2_with (go_at_call 104; refine HU.out.mono ?_; rintro e w1 ⟨⟨n, q, rfl, hnq⟩, rfl⟩; obtain ⟨rfl, rfl⟩ := hnq rfl; have hb0 : uB (some x) = true := rfl; rw [hb0])
    go_ret3
    exact ⟨rfl, rfl⟩
theorem rnumber_any (a : Option Addr) (len cap : Nat) (f : Nat → Int) (at_ : Int) (w : World) (h : Src w a len cap f) (hc : len ≤ cap) :
    Calls Tryd.prog 74 #[.slice a len cap, .int .i64 at_] w fun e w' => e = .returned (.tuple #[.int .u32 (uN (uintR f len at_)), .int .i64 (uP at_ (uintR f len at_)), .bool (uB (uintR f len at_))]) ∧ w' = w := by
  have HU : Hid (Calls Tryd.prog 93 #[.slice a len cap, .int .i64 at_] w _) := number_any a len cap f at_ w h hc
  clear h
  generalize uintR f len at_ = R at HU
  go_enter Tryd.func74, Tryd.ntmps74
  go_wp2_with (go_at_call 93; refine HU.out.mono ?_; rintro e w1 ⟨rfl, rfl⟩)
  go_ret3
  exact ⟨rfl, rfl⟩
end Go.Proofs.YtcppgpcgbggdcaaDoor
