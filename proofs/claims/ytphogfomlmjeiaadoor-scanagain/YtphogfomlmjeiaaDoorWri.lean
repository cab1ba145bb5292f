/-
  The laws' own written: a token as a source says it; rows of bytes and of places that a call makes.
-/
import Derived.Test.YtphogfomlmjeiaaDoorAgn
import Derived.Test.YtphogfomlmjeiaaDoorBsd
namespace Go.Proofs.YtphogfomlmjeiaaDoor
set_option linter.unusedVariables false
set_option linter.unusedSimpArgs false
open Go.ChangeShapes Go.WideShapes Go.ChangeAt Go.RowKit
attribute [local go_sem ↓] loadTk_seal storeTk_seal loadKeys_seal loadSigns_seal
attribute [local go_sem] loadTk_run storeTk_run rowAt_at rowAt_old rowAt_drew rowAt_drewN roomTk_new roomAt_old roomAt_drew roomAt_drewN putTk_new Tk.fold putRow_past rowTk_put size_put putRow_drew putRow_drewN alloc_drewN setCell_drewN Tk.at0 Tk.at1 Tk.at2 Tk.at3 Tk.size Tk.set0 Tk.set1 Tk.set2 Tk.set3 Tk.ne rowAt_set rowAt_far roomAt_far

theorem conv_i64_u32 (n : Int) (w : World) : (convert 2 33 (.int .i64 n)).run Tryd.prog w = .ok (.int .u32 ((u32 n : Nat) : Int)) w := by
  have e : IntKind.u32.wrap n = ((u32 n : Nat) : Int) := by rw [IntKind.wrap_u32]; unfold u32; omega
  simp [convert, run_underlying Tryd.underlying2, run_underlying Tryd.underlying33, Conv.intToInt, e]
set_option maxHeartbeats 1000000 in
theorem written_any (x : Tok) (hx : x.t.length ≤ 16384) (w : World) : Calls Tryd.prog 16 #[.agg x.tk.cells] w fun e w' => e = .returned (.string (bs (wr x))) ∧ Below w.heap.size w w' := by
  have BA := fun W => based_any (u32 x.n) (u32_lt _) W
  have CV := conv_i64_u32 x.n
  have hl := D_len (b := 16) (u32 x.n)
  have hw : wr x = if x.k = 3 then 48 :: D 16 (u32 x.n) ++ [72] else if x.k = 4 then 48 :: D 16 (u32 x.n) ++ [88] else if x.k = 5 then 34 :: x.t ++ [34] else x.t := rfl
  have z1 : (bs (48 :: D 16 (u32 x.n))).size ≤ 65 := by rw [bs_size]; simp; omega
  have z2 : (bs x.t).size ≤ 16384 := by rw [bs_size]; exact hx
  obtain ⟨T, hT⟩ : ∃ T : Tk, x.tk = T := ⟨_, rfl⟩
  have t0 : T.k = x.k := by rw [← hT]; rfl
  have t1 : T.t = bs x.t := by rw [← hT]; rfl
  have t2 : T.n = x.n := by rw [← hT]; rfl
  rw [hT]
  have a1 := bs_app (48 :: D 16 (u32 x.n)) [72]
  have a2 := bs_app (48 :: D 16 (u32 x.n)) [88]
  have HW : Hid (wr x = if x.k = 3 then 48 :: D 16 (u32 x.n) ++ [72] else if x.k = 4 then 48 :: D 16 (u32 x.n) ++ [88] else if x.k = 5 then 34 :: x.t ++ [34] else x.t) := hw
  rw [← t0] at HW
  generalize u32 x.n = U at *
  rw [← t2] at CV
  have HA1 : Hid (bs (48 :: D 16 U) ++ { data := #[72] } = bs (48 :: D 16 U ++ [72])) := a1
  have HA2 : Hid (bs (48 :: D 16 U) ++ { data := #[88] } = bs (48 :: D 16 U ++ [88])) := a2
  have HA3 : Hid (({ data := #[34] } : ByteArray) ++ bs x.t ++ { data := #[34] } = bs (34 :: x.t ++ [34])) := by
    show ({ data := #[34] } : ByteArray) ++ bs x.t ++ { data := #[34] } = bs (34 :: x.t ++ [34])
    rw [show ({ data := #[34] } : ByteArray) = bs [34] from rfl, bs_app, bs_app]; rfl
  generalize hb : bs (48 :: D 16 U) = y at *
  clear a1 a2 hw hT t0 t2
  by_cases h3 : T.k = 3
  · have k3 : (T.k == 3) = true := by simpa using h3
    have HF : Hid (bs (wr x) = y ++ { data := #[72] }) := by rw [HA1.out, HW.out, if_pos h3]; rfl
    clear HW HA1 HA2 HA3
    go_enter Tryd.func16, Tryd.ntmps16
    go_wp2_with (go_at_call 14; refine (BA _).mono ?_; rintro e W' ⟨rfl, hw⟩; rw [hw]; clear hw)
    go_ret
    exact ⟨ret_str HF.out.symm, (Below.refl _ _).alloc (Nat.le_refl _) _⟩
  · have k3 : (T.k == 3) = false := by simpa using h3
    by_cases h4 : T.k = 4
    · have k4 : (T.k == 4) = true := by simpa using h4
      have HF : Hid (bs (wr x) = y ++ { data := #[88] }) := by rw [HA2.out, HW.out, if_neg h3, if_pos h4]; rfl
      clear HW HA1 HA2 HA3
      go_enter Tryd.func16, Tryd.ntmps16
      go_wp2_with (go_at_call 14; refine (BA _).mono ?_; rintro e W' ⟨rfl, hw⟩; rw [hw]; clear hw)
      go_ret
      exact ⟨ret_str HF.out.symm, (Below.refl _ _).alloc (Nat.le_refl _) _⟩
    · have k4 : (T.k == 4) = false := by simpa using h4
      by_cases h5 : T.k = 5
      · have k5 : (T.k == 5) = true := by simpa using h5
        have HF : Hid (bs (wr x) = ({ data := #[34] } : ByteArray) ++ bs x.t ++ { data := #[34] }) := by rw [HA3.out, HW.out, if_neg h3, if_neg h4, if_pos h5]; rfl
        clear HW HA1 HA2 HA3
        go_enter Tryd.func16, Tryd.ntmps16
        go_wp2
        go_ret
        exact ⟨ret_str HF.out.symm, (Below.refl _ _).alloc (Nat.le_refl _) _⟩
      · have k5 : (T.k == 5) = false := by simpa using h5
        have HF : Hid (bs (wr x) = bs x.t) := by rw [HW.out, if_neg h3, if_neg h4, if_neg h5]; rfl
        clear HW HA1 HA2 HA3
        go_enter Tryd.func16, Tryd.ntmps16
        go_wp2
        go_ret
        exact ⟨ret_str HF.out.symm, (Below.refl _ _).alloc (Nat.le_refl _) _⟩
end Go.Proofs.YtphogfomlmjeiaaDoor
