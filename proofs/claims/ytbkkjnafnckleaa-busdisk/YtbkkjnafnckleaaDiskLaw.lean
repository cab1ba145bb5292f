/-
  The walk of the law on the disk.
-/
import Derived.Test.YtbkkjnafnckleaaDiskW
import Derived.Deep.QuietTactic
import Derived.BigQuiet
namespace Go.Proofs.Ytbkkjnafnckleaa
open Go.ChangeShapes Go.WideShapes Go.ChangeAt Go.RowKit
attribute [local go_sem ↓] loadSec_seal storeSec_seal eqlSec_seal zeroSec
attribute [local go_sem] loadSec_run storeSec_run rowAt_at rowAt_old rowAt_drew rowAt_drewN roomSec_new roomAt_old roomAt_drew roomAt_drewN putSec_new putRow_past rowSec_put size_put putRow_drew putRow_drewN alloc_drewN setCell_drewN sec_size

set_option linter.unusedVariables false

def Fours (M : Nat → Int) (x : Nat) (f : Nat → Int) (k : Nat) : Prop := ∀ i, i < k → Four M ((x + 4 * i : Nat) : Int) (f i)
theorem Fours.next {M : Nat → Int} {x : Nat} {f : Nat → Int} {k : Nat} (h : Fours M x f k) (x4 : x % 4 = 0) (hw : isW ((x + 4 * k : Nat) : Int) = true) : Fours (pokeM M ((x + 4 * k : Nat) : Int) (f k)) x f (k + 1) := fun i hi => by
  by_cases e : i = k
  · subst e; exact four_poke _ _ _ hw
  · exact (h i (by omega)).poke (by omega) (by omega) (by omega) (by omega)
/-- A bus whose disk has sixteen sectors, so many writes, and words in its memory. -/
structure DkRel (w : World) (b db : Nat) (x : Nat) (f : Nat → Int) (k m : Nat) (X : World) : Prop where
  ex : ∃ P L, Own w b P L X ∧ P.db = db ∧ L.n = 16 ∧ L.m = m ∧ Fours L.M x f k
theorem did_no (L : Lg) (c s a : Int) (h : ¬ (a % 4 = 0 ∧ a ≤ 1047552) ∨ (L.n : Int) ≤ s ∨ (¬ c = 1 ∧ ¬ c = 2)) : L.did c s a = false ∧ (Lg.moved { L with sc := s, ad := a } c).2 = { L with sc := s, ad := a } := by
  unfold Lg.did Lg.moved
  by_cases hp : placeB { L with sc := s, ad := a } = false
  · rw [if_pos hp]; exact ⟨rfl, rfl⟩
  · rw [if_neg hp]
    have hp' : a % 4 = 0 ∧ a ≤ 1047552 := by simpa [placeB] using hp
    have h : (L.n : Int) ≤ s ∨ (¬ c = 1 ∧ ¬ c = 2) := h.resolve_left fun e => e hp'
    by_cases c1 : c = 1
    · rw [if_pos c1, if_neg (show ¬ s < (L.n : Int) by omega)]; exact ⟨rfl, rfl⟩
    · rw [if_neg c1]
      by_cases c2 : c = 2
      · rw [if_pos c2, if_neg (show ¬ (s < (L.n : Int) ∧ L.m < 4096) by omega)]; exact ⟨rfl, rfl⟩
      · rw [if_neg c2]; exact ⟨rfl, rfl⟩
theorem did_write (L : Lg) (s : Nat) (a : Nat) (h4 : a % 4 = 0) (ha : a ≤ 1047552) (hs : s < L.n) (hm : L.m < 4096) : L.did 2 s a = true ∧ (L.asked 2 s a).M = L.M ∧ (L.asked 2 s a).S = upd L.S s (memF L.M a) ∧ (L.asked 2 s a).m = L.m + 1 ∧ (L.asked 2 s a).n = L.n := by
  have hp : placeB { L with sc := (s : Int), ad := (a : Int) } = true := decide_eq_true (show (a : Int) % 4 = 0 ∧ (a : Int) ≤ 1047552 by omega)
  have e : Lg.moved { L with sc := (s : Int), ad := (a : Int) } 2 = (true, { L with sc := (s : Int), ad := (a : Int), S := upd L.S s (memF L.M a), m := L.m + 1 }) := by
    unfold Lg.moved
    rw [if_neg (by rw [hp]; decide), if_neg (by decide), if_pos rfl, if_pos (show (s : Int) < (L.n : Int) ∧ L.m < 4096 by omega)]
    rfl
  unfold Lg.did Lg.asked Lg.obeyed
  rw [e]; exact ⟨rfl, rfl, rfl, rfl, rfl⟩
theorem did_read (L : Lg) (s : Nat) (a : Nat) (h4 : a % 4 = 0) (ha : a ≤ 1047552) (hs : s < L.n) : L.did 1 s a = true ∧ (L.asked 1 s a).M = layM L.M a (L.S s) ∧ (L.asked 1 s a).S = L.S ∧ (L.asked 1 s a).m = L.m ∧ (L.asked 1 s a).n = L.n := by
  have hp : placeB { L with sc := (s : Int), ad := (a : Int) } = true := decide_eq_true (show (a : Int) % 4 = 0 ∧ (a : Int) ≤ 1047552 by omega)
  have e : Lg.moved { L with sc := (s : Int), ad := (a : Int) } 1 = (true, { L with sc := (s : Int), ad := (a : Int), M := layM L.M a (L.S s) }) := by
    unfold Lg.moved
    rw [if_neg (by rw [hp]; decide), if_pos rfl, if_pos (show (s : Int) < (L.n : Int) by omega)]
    rfl
  unfold Lg.did Lg.asked Lg.obeyed
  rw [e]; exact ⟨rfl, rfl, rfl, rfl, rfl⟩
theorem asked_no (L : Lg) (c s a : Int) (h : ¬ (a % 4 = 0 ∧ a ≤ 1047552) ∨ (L.n : Int) ≤ s ∨ (¬ c = 1 ∧ ¬ c = 2)) : (L.asked c s a).m = L.m := by
  unfold Lg.asked Lg.obeyed
  rw [(did_no L c s a h).2]
/-- A command that may not be. -/
theorem command_no {w : World} {b db x k m : Nat} {f : Nat → Int} {X : World} (h : DkRel w b db x f k m X) (c s a : Int) (c0 : 0 ≤ c) (c1 : c ≤ 4294967295) (s0 : 0 ≤ s) (s1 : s ≤ 4294967295) (a0 : 0 ≤ a) (a1 : a ≤ 4294967295) (hno : ¬ (a % 4 = 0 ∧ a ≤ 1047552) ∨ 16 ≤ s ∨ (¬ c = 1 ∧ ¬ c = 2)) : Calls Try.prog 24 #[.pointer (some ⟨b, 0, none⟩), .int .u32 c, .int .u32 s, .int .u32 a] X fun e Y => e = .returned (.bool false) ∧ (∃ D, Rep Y db D ∧ D.m = m) ∧ Below w.heap.size w Y := by
  obtain ⟨P, L, hO, hdb, hn, hm, _⟩ := h.ex
  have hno' : ¬ (a % 4 = 0 ∧ a ≤ 1047552) ∨ (L.n : Int) ≤ s ∨ (¬ c = 1 ∧ ¬ c = 2) := by rw [hn]; exact hno
  have e := command_any b P L c s a X hO.bus c0 c1 s0 s1 a0 a1
  rw [(did_no L c s a hno').1] at e
  refine e.mono fun e Y ⟨he, P', hS⟩ => ⟨he, ⟨P'.D, ?_, ?_⟩, (hO.step hS).below⟩
  · rw [← hdb, ← hS.db]; exact hS.bus.dsk
  · rw [hS.bus.dm, asked_no L c s a hno', hm]
/-- The sector is written, and read back elsewhere. -/
theorem command_write {w : World} {b db x k m : Nat} {f : Nat → Int} {X : World} (h : DkRel w b db x f k m X) (s a : Nat) (hs : s < 16) (h4 : a % 4 = 0) (ha : a ≤ 1047552) (hm : m < 4096) : Calls Try.prog 24 #[.pointer (some ⟨b, 0, none⟩), .int .u32 2, .int .u32 s, .int .u32 a] X fun e Y => e = .returned (.bool true) ∧ ∃ P L, Own w b P L Y ∧ P.db = db ∧ L.n = 16 ∧ L.m = m + 1 ∧ Fours L.M x f k ∧ L.S s = memF L.M a := by
  obtain ⟨P, L, hO, hdb, hn, hmm, hf⟩ := h.ex
  have d := did_write L s a h4 ha (by omega) (by omega)
  have e := command_any b P L 2 s a X hO.bus (by decide) (by decide) (by omega) (by omega) (by omega) (by omega)
  rw [d.1] at e
  exact e.mono fun e Y ⟨he, P', hS⟩ => ⟨he, P', _, hO.step hS, hS.db.trans hdb, d.2.2.2.2.trans hn, by rw [d.2.2.2.1, hmm], by rw [d.2.1]; exact hf, by rw [d.2.2.1, d.2.1, upd_at]⟩
theorem command_read {w : World} {b : Nat} {P : Ph} {L : Lg} {X : World} (h : Own w b P L X) (hn : L.n = 16) (s a : Nat) (hs : s < 16) (h4 : a % 4 = 0) (ha : a ≤ 1047552) : Calls Try.prog 24 #[.pointer (some ⟨b, 0, none⟩), .int .u32 1, .int .u32 s, .int .u32 a] X fun e Y => e = .returned (.bool true) ∧ ∃ P' L', Own w b P' L' Y ∧ P'.db = P.db ∧ L'.n = 16 ∧ L'.m = L.m ∧ L'.S = L.S ∧ L'.M = layM L.M a (L.S s) := by
  have d := did_read L s a h4 ha (by omega)
  have e := command_any b P L 1 s a X h.bus (by decide) (by decide) (by omega) (by omega) (by omega) (by omega)
  rw [d.1] at e
  exact e.mono fun e Y ⟨he, P', hS⟩ => ⟨he, P', _, h.step hS, hS.db, d.2.2.2.2.trans hn, d.2.2.2.1, d.2.2.1, d.2.1⟩
/-- What stands at the second place. -/
theorem Fours.read {M : Nat → Int} {x y k : Nat} {f : Nat → Int} (h : Fours M x f k) (hk : k ≤ 256) : Fours (layM M y (memF M x)) y f k := fun i hi j hj => by
  have e := h i hi j hj
  unfold layM
  rw [if_pos (by omega)]
  unfold memF
  rw [show x + ((((y + 4 * i : Nat) : Int)).toNat + j - y) = (((x + 4 * i : Nat) : Int)).toNat + j by omega]
  exact e
end Go.Proofs.Ytbkkjnafnckleaa
