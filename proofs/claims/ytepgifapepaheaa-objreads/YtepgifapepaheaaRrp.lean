/-
  Layer 7: the row of procedures that the reader reads.
-/
import Derived.Test.YtepgifapepaheaaRpr
namespace Go.Proofs.Ytepgifapepaheaa
set_option linter.unusedVariables false
set_option linter.unusedSimpArgs false
open Go.ChangeShapes Go.WideShapes Go.ChangeAt Go.RowKit

theorem PA.tq {X Y : World} {P : Nat → Prop} {B ob : Nat} {o : Oc} {l : List (Int × ByteArray × Bool)} (h : PA X B ob o l) (t : Tq X Y P) (hob : ¬ P ob) (hn : ∀ g, (Value.slice o.na.a o.na.n o.na.c).ownBlock = some g → ¬ P g) (he : ∀ g, (Value.slice o.ex.a o.ex.n o.ex.c).ownBlock = some g → ¬ P g) : PA Y B ob o l := ⟨h.lies.tq t hob, t.own h.na hn, t.own h.ex he⟩
theorem By.tq {X Y : World} {P : Nat → Prop} {b nb q : Nat} (h : By b nb q X) (t : Tq X Y P) (hn : ¬ P nb) (hq : ¬ P q) : By b nb q Y :=
  ⟨(World.cell?_of_block (a := ⟨nb, 0, none⟩) (t.blk nb h.2.2.2.2.1 hn)).trans h.1, (World.cell?_of_block (a := ⟨q, 0, none⟩) (t.blk q h.2.2.2.2.2 hq)).trans h.2.1, h.2.2.1, h.2.2.2.1, Nat.lt_of_lt_of_le h.2.2.2.2.1 t.size, Nat.lt_of_lt_of_le h.2.2.2.2.2 t.size⟩
/-- What stands while the row of procedures is read. -/
structure PL (w wx : World) (b len cap : Nat) (a : Option Addr) (f : Nat → Int) (nb q ob : Nat) (o : Oc) (v : Value) (acc : List (Int × ByteArray × Bool)) (sx : St) : Prop where
  row : wx.ownsRow w.heap.size 3 1 v acc.length (acc.map fun p => .int .i64 p.1)
  pa : ∃ na ex, PA wx w.heap.size ob (o.put na ex) acc
  rd : Rdr wx b a len cap f sx
  by_ : By b nb q wx
  tq : Tq w wx (fun k => k = b ∨ k = ob ∨ w.heap.size ≤ k)
def PostP (w : World) (b len cap : Nat) (a : Option Addr) (f : Nat → Int) (nb q ob : Nat) (o : Oc) (F : List (Int × ByteArray × Bool) × St) (e : Ending) (w' : World) : Prop := ∃ v na ex l, e = .returned v ∧ w'.ownsRow w.heap.size 3 1 v F.1.length (F.1.map fun p => .int .i64 p.1) ∧ PA w' w.heap.size ob (o.put na ex) l ∧ (F.2.st = false → l = F.1) ∧ Rdr w' b a len cap f F.2 ∧ By b nb q w' ∧ Tq w w' (fun k => k = b ∨ k = ob)
set_option maxHeartbeats 8000000 in
set_option maxRecDepth 20000 in
theorem row_prc (w : World) (b len cap : Nat) (a : Option Addr) (f : Nat → Int) (s : St) (h : Rdr w b a len cap f s) (nb q ob : Nat) (o : Oc) (hq : By b nb q w) (hO : OAt w ob o) (hna : o.na = ⟨none, 0, 0⟩) (hex : o.ex = ⟨none, 0, 0⟩) (hob : ob ≠ b) (hnb : nb ≠ ob) (hqo : q ≠ ob) (haB : ∀ ad, a = some ad → ad.block ≠ ob) :
    Calls Try.prog 34 #[.pointer (some ⟨b, 0, none⟩), .int .u32 100, .func (.func 35) #[] #[.pointer (some ⟨nb, 0, none⟩), .pointer (some ⟨ob, 0, none⟩), .pointer (some ⟨q, 0, none⟩)]] w (PostP w b len cap a f nb q ob o (rowS f len 100 (prcS f len) s)) := by
  obtain ⟨i0, hi0, hz0, hz1, hz2⟩ := info_parts info_int
  have hN := number_of w b len cap a f s h 100 (by omega) (by omega)
  have hbd := numS_bd f len 100 s (by omega)
  have bl := h.bl
  have HAB : Hid (∀ ad, a = some ad → ad.block < w.heap.size ∧ ad.block ≠ ob) := fun ad he => ⟨(h.ap ad he).2, haB ad he⟩
  have hol := hO.lt
  have HO0 : Hid (OAt w ob o ∧ By b nb q w) := ⟨hO, hq⟩
  have hnl := hq.2.2.2.2.1
  have hql := hq.2.2.2.2.2
  obtain ⟨F, hF⟩ : ∃ F, F = rowS f len 100 (prcS f len) s := ⟨_, rfl⟩
  rw [← hF]
  unfold rowS at hF
  obtain ⟨n, hn⟩ : ∃ n : Nat, (numS f len 100 s).1 = (n : Int) := ⟨(numS f len 100 s).1.toNat, by omega⟩
  rw [hn] at hN hF hbd
  rw [Int.toNat_natCast] at hF
  have hn2 : n ≤ 100 := by omega
  generalize (numS f len 100 s).2 = s1 at hN hF
  have HN : Hid (Calls Try.prog 28 #[.pointer (some ⟨b, 0, none⟩), .int .u32 100] w (PostR w b a len cap f (.int .i64 (n : Int)) s1)) := hN
  have HF : Hid (F = loopS (prcS f len) n [] s1) := hF
  clear hN hF haB h hn hbd hO hq
  go_enter Try.func34, Try.ntmps34
  go_wp2_with (go_at_call 28; refine HN.out.mono ?_; rintro e w1 ⟨rfl, hr1, hg1⟩)
  have R1 : Hid (PL w w1 b len cap a f nb q ob o (.slice none 0 0) [] s1) := by
    refine ⟨⟨by simp, .inl ⟨rfl, rfl⟩⟩, ⟨⟨none, 0, 0⟩, ⟨none, 0, 0⟩, ?_, ⟨by simp, .inl ⟨rfl, rfl⟩⟩, ⟨by simp, .inl ⟨rfl, rfl⟩⟩⟩, hr1, HO0.out.2.gb hg1, Tq.gb hg1 fun k e => .inl (by injection e with e; exact e.symm)⟩
    have := blk_keep HO0.out.1 hg1 hob
    cases o; subst hna hex; exact this
  clear hr1 hg1
  go_loopg [7, 8, 12] n (fun gf s7 s8 s12 wx => ∃ (i : Nat) (acc : List (Int × ByteArray × Bool)) (sx : St), s12 = .int .i64 (i : Int) ∧ i + gf = n ∧ acc.length = i ∧ Hid (F = loopS (prcS f len) gf acc sx) ∧ Hid (PL w wx b len cap a f nb q ob o s7 acc sx))
  case atStart => exact ⟨0, [], s1, rfl, by omega, rfl, HF.out, R1.out⟩
  case round =>
    obtain ⟨i, acc, sx, rfl, hi, hacc, HL, HO⟩ := hrel
    by_cases hlt : i < n
    · obtain ⟨g', rfl⟩ : ∃ g', gk = g' + 1 := ⟨gk - 1, by omega⟩
      have d1 : decide ((i : Int) < (n : Int)) = true := decide_eq_true (by omega)
      obtain ⟨na, ex, hPA⟩ := HO.out.pa
      have PC := cl_prc wr b len cap a f sx HO.out.rd nb q ob w.heap.size (o.put na ex) acc HO.out.by_ hPA HO.out.tq.size bl hol hob ⟨hnb, hnl⟩ ⟨hqo, hql⟩ HAB.out (by omega)
      have hl2 := HL.out
      simp only [loopS] at hl2
      obtain ⟨⟨xx, sy⟩, hrd⟩ : ∃ r, prcS f len sx = r := ⟨_, rfl⟩
      rw [hrd] at PC hl2
      simp only at PC hl2
      have STP : Hid (∀ w2, Rdr w2 b a len cap f sy → By b nb q w2 → (∃ na' ex', PA w2 w.heap.size ob ((o.put na ex).put na' ex') (acc ++ [xx])) → Tq wr w2 (Pq b ob (o.put na ex)) → w2.ownsRow w.heap.size 3 1 u7 acc.length (acc.map fun p => .int .i64 p.1) ∧ (∃ na' ex', PA w2 w.heap.size ob (o.put na' ex') (acc ++ [xx])) ∧ Tq w w2 (fun k => k = b ∨ k = ob ∨ w.heap.size ≤ k)) := fun w2 _ _ h3 h4 => by
        refine ⟨h4.own HO.out.row fun g hg hp => ?_, h3, HO.out.tq.trans (h4.mono fun k _ hp => ?_)⟩
        · have hge := own_lo HO.out.row g hg
          rcases hp with hp | hp | hp | hp
          · omega
          · omega
          · exact own_two HO.out.row hPA.na (by decide) hg hp
          · exact own_two HO.out.row hPA.ex (by decide) hg hp
        · rcases hp with hp | hp | hp | hp
          · exact .inl hp
          · exact .inr (.inl hp)
          · exact .inr (.inr (own_lo hPA.na k hp))
          · exact .inr (.inr (own_lo hPA.ex k hp))
      have HPC : Hid (Calls Try.prog 35 #[.pointer (some ⟨nb, 0, none⟩), .pointer (some ⟨ob, 0, none⟩), .pointer (some ⟨q, 0, none⟩)] wr fun e w' => e = .returned (.int .i64 xx.1) ∧ Rdr w' b a len cap f sy ∧ By b nb q w' ∧ (∃ na' ex', PA w' w.heap.size ob ((o.put na ex).put na' ex') (acc ++ [xx])) ∧ Tq wr w' (Pq b ob (o.put na ex))) := PC
      clear PC hPA
      cases hst : sy.st
      · rw [hst] at hl2
        simp only [Bool.false_eq_true, if_false] at hl2
        have HL2 : Hid (F = loopS (prcS f len) g' (acc ++ [xx]) sy) := hl2
        clear hl2 HL
        go_wp2_with (first
          | (go_at_call 35; refine HPC.out.mono ?_; rintro e w2 ⟨rfl, hr2, hy2, hp2, ht2⟩; have c2 := hr2.c2; rw [hst] at c2; obtain ⟨q1, q2, q3⟩ := STP.out w2 hr2 hy2 hp2 ht2; have HO2 : Hid (w2.ownsRow w.heap.size 3 1 u7 acc.length (acc.map fun p => .int .i64 p.1) ∧ (∃ na' ex', PA w2 w.heap.size ob (o.put na' ex') (acc ++ [xx])) ∧ Rdr w2 b a len cap f sy ∧ By b nb q w2 ∧ Tq w w2 (fun k => k = b ∨ k = ob ∨ w.heap.size ≤ k)) := ⟨q1, q2, hr2, hy2, q3⟩; clear hr2 hy2 hp2 ht2 q1 q2 q3 HO STP)
          | (at_builtin; refine wpList_append_own _ rfl _ _ 27 rfl w.heap.size 3 i0 (.int .i64 0) 1 8 Try.underlying27 hi0 hz0 hz1 hz2 rfl (by decide) _ _ _ rfl (HO2.out.1.alloc _) ⟨w2.heap.size, 0, none⟩ 1 1 [.int .i64 xx.1] rfl rfl ?c1 ?c2 ?c3 ?c4 ?c5 ?c6)
          | go_in)
        case c1 => exact cell_one _ _ _
        case c2 => intro u hu; simp at hu; subst hu; rfl
        case c3 => unfold maxLen; omega
        case c4 => omega
        case c5 => have := HO2.out.2.2.2.2.size; simp; omega
        intro s' w3 hown' hgrow _
        have HO3 : Hid (PL w w3 b len cap a f nb q ob o s' (acc ++ [xx]) sy) := by
          have hlo := own_lo HO2.out.1
          have T3 : Tq w2 w3 (fun k => u7.ownBlock = some k) := tq_app hgrow fun k e => e
          obtain ⟨na', ex', hp⟩ := HO2.out.2.1
          refine ⟨by rw [List.length_append, List.map_append, hacc]; exact hown', ⟨na', ex', hp.tq T3 (fun e => by have := hlo _ e; omega) (fun g hg e => own_two hp.na HO2.out.1 (by decide) hg e) (fun g hg e => own_two hp.ex HO2.out.1 (by decide) hg e)⟩, T3.rdr HO2.out.2.2.1 (fun e => by have := hlo _ e; omega) (fun ad he e => by have := hlo _ e; have := (HAB.out ad he).1; omega), HO2.out.2.2.2.1.tq T3 (fun e => by have := hlo _ e; omega) (fun e => by have := hlo _ e; omega), HO2.out.2.2.2.2.trans (T3.mono fun k _ e => .inr (.inr (hlo _ e)))⟩
        clear hown' hgrow HO2
        go_wp2
        go_roundg g'
        case measure => omega
        case rel => exact ⟨i + 1, acc ++ [xx], sy, by simp, by omega, by simp [hacc], HL2.out, HO3.out⟩
      · rw [hst] at hl2
        simp only [if_true] at hl2
        go_wp2_with (go_at_call 35; refine HPC.out.mono ?_; rintro e w2 ⟨rfl, hr2, hy2, hp2, ht2⟩; have c2 := hr2.c2; rw [hst] at c2)
        go_ret
        obtain ⟨q1, ⟨na', ex', q2⟩, q3⟩ := STP.out w2 hr2 hy2 hp2 ht2
        refine ⟨_, na', ex', _, rfl, ?_, q2, ?_, ?_, hy2, q3.mono fun k hk hp => ?_⟩
        · rw [hl2]; exact ⟨by simp, .inl ⟨rfl, rfl⟩⟩
        · rw [hl2]; intro e; rw [hst] at e; cases e
        · rw [hl2]; exact hr2
        · rcases hp with hp | hp | hp
          · exact .inl hp
          · exact .inr hp
          · omega
    · obtain rfl : gk = 0 := by omega
      have d1 : decide ((i : Int) < (n : Int)) = false := decide_eq_false (by omega)
      have hl2 := HL.out
      simp only [loopS] at hl2
      obtain ⟨na, ex, hPA⟩ := HO.out.pa
      have HPA : Hid (PA wr w.heap.size ob (o.put na ex) acc) := hPA
      clear hPA
      go_wp2
      go_ret
      refine ⟨_, na, ex, acc, rfl, ?_, HPA.out, ?_, ?_, HO.out.by_, HO.out.tq.mono fun k hk hp => ?_⟩
      · rw [hl2]; exact HO.out.row
      · rw [hl2]; exact fun _ => rfl
      · rw [hl2]; exact HO.out.rd
      · rcases hp with hp | hp | hp
        · exact .inl hp
        · exact .inr hp
        · omega
end Go.Proofs.Ytepgifapepaheaa
