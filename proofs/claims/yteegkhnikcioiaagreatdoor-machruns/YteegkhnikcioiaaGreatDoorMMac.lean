/-
  What a machine is as plain data, what a step makes of it, and what a run.
  What follows of runs, as plain data: what a step that does not go on leaves as it is; writes; pieces; ends; cuts.
  How a machine lies in memory.
-/
import Derived.Test.YteegkhnikcioiaaGreatDoorMBMeth
import Derived.Test.YteegkhnikcioiaaGreatDoorMCEnds
namespace Go.Proofs.YteegkhnikcioiaaGreatDoor
open Go.ChangeShapes Go.WideShapes Go.ChangeAt Go.RowKit
open Cpu (Cp In Ac En decOk decI accA rightB)
set_option linter.unusedVariables false

def enAt (k a : Int) : En := { k := k, t := 0, a := a, s := 0 }
/-- What a machine holds. -/
structure Ms where
  c : Cp
  L : Lg
  st : Int
  cut : Int
def Ms.gone (m : Ms) : Bool := decide (0 ≤ m.cut) && decide (m.cut ≤ (m.L.m : Int))
def Ms.word (m : Ms) : Int := gotV m.L.M m.c.PC
def Ms.asks (m : Ms) : Ac := accA m.c (decI m.word)
def Ms.did (m : Ms) : (Int × Int) × Lg := m.L.step m.asks.K m.asks.D m.asks.V
def Ms.trapped (m : Ms) (n : Int) : En × Ms :=
  if n = 0 then (enAt 3 0, m) else if gotV m.L.M 16 = 0 then ({ k := 4, t := n, a := m.c.PC, s := 0 }, m) else
    (enAt 0 0, { m with L := { m.L with M := pokeM (pokeM m.L.M 20 (n % 4294967296)) 24 m.c.PC }, c := { m.c with PC := gotV m.L.M 16 } })
def Ms.counted (m : Ms) : Ms := { m with L := m.did.2, st := m.st + 1 }
def Ms.step (m : Ms) : (Ac × En) × Ms :=
  if isW m.c.PC = true then
    if decOk m.word = true then
      if m.did.1.2 = 1 then ((m.asks, enAt 6 m.c.PC), { m with L := m.did.2 })
      else if m.did.1.2 = 2 then ((m.asks, enAt 2 0), { m with L := m.did.2 })
      else if m.c.execT (decI m.word) = true then ((m.asks, (m.counted.trapped (m.c.execN (decI m.word))).1), (m.counted.trapped (m.c.execN (decI m.word))).2)
      else ((m.asks, enAt 0 0), { m.counted with c := m.c.execD (decI m.word) m.did.1.1 })
    else (({ K := 0, D := 0, V := 0 }, enAt 5 m.c.PC), m)
  else (({ K := 0, D := 0, V := 0 }, enAt 6 m.c.PC), m)
def isCmd (a : Ac) : Bool := decide (a.K = 3) && decide (a.D = 4294967252)
def Ms.stretch : Nat → Ms → En × Ms
  | 0, m => (enAt 1 0, m)
  | n + 1, m => if m.step.1.2.k = 0 ∧ isCmd m.step.1.1 = false then m.step.2.stretch n else (m.step.1.2, m.step.2)
def Ms.run : Nat → Ms → En × Ms
  | 0, m => if m.gone = true then (enAt 7 0, m) else (enAt 1 0, m)
  | n + 1, m => if m.gone = true then (enAt 7 0, m) else if m.step.1.2.k = 0 then m.step.2.run n else (m.step.1.2, m.step.2)
/-- What a run tells. -/
def Ms.tells (m : Ms) (n : Nat) : En := { (m.run n).1 with s := (m.run n).2.st - m.st }
theorem Ms.run_gone (m : Ms) (n : Nat) (h : m.gone = true) : m.run n = (enAt 7 0, m) := by
  cases n <;> simp [Ms.run, h]

theorem trapped_st (m : Ms) (n : Int) : (m.trapped n).2.st = m.st ∧ (m.trapped n).2.cut = m.cut ∧ (m.trapped n).2.L.m = m.L.m := by
  unfold Ms.trapped
  split
  · exact ⟨rfl, rfl, rfl⟩
  · split <;> exact ⟨rfl, rfl, rfl⟩
theorem trapped_kind (m : Ms) (n : Int) : (m.trapped n).1.k = 0 ∨ (((m.trapped n).1 = enAt 3 0 ∨ (m.trapped n).1 = { k := 4, t := n, a := m.c.PC, s := 0 } ∧ n ≠ 0) ∧ (m.trapped n).2 = m) := by
  unfold Ms.trapped
  split
  · exact .inr ⟨.inl rfl, rfl⟩
  · split
    · exact .inr ⟨.inr ⟨rfl, by assumption⟩, rfl⟩
    · exact .inl rfl
/-- A step that goes on is counted, and the power's cut stays. -/
theorem step_goes {m : Ms} (h : m.step.1.2.k = 0) : m.step.2.st = m.st + 1 ∧ m.step.2.cut = m.cut ∧ m.step.2.L.m = m.did.2.m ∧ m.step.1.1 = m.asks := by
  unfold Ms.step at h ⊢
  split at h
  · split at h
    · split at h
      · cases h
      · split at h
        · cases h
        · split at h
          · rename_i h1 h2 h3 h4 h5
            simp only [if_pos h1, if_pos h2, if_neg h3, if_neg h4, if_pos h5]
            have := trapped_st m.counted (m.c.execN (decI m.word))
            exact ⟨this.1, this.2.1, this.2.2, trivial⟩
          · rename_i h1 h2 h3 h4 h5
            simp only [if_pos h1, if_pos h2, if_neg h3, if_neg h4, if_neg h5]
            exact ⟨rfl, rfl, rfl, trivial⟩
    · cases h
  · cases h
end Go.Proofs.YteegkhnikcioiaaGreatDoor

namespace Go.Proofs.YteegkhnikcioiaaGreatDoor
open Cpu (Cp In Ac En decOk decI accA rightB)
set_option linter.unusedVariables false
set_option linter.unusedSimpArgs false

theorem dev_stays (L : Lg) : ∀ d : Nat, (L.dev d).1.2 ≠ 0 → (L.dev d).2 = L
  | 0, _ => rfl
  | 1, h => by
    unfold Lg.dev at h ⊢
    cases hI : L.I with
    | nil => simp [hI]
    | cons x r => simp [hI] at h
  | 2, _ => rfl
  | 3, _ => rfl
  | 4, _ => rfl
  | 5, _ => rfl
  | 6, _ => rfl
  | _ + 7, _ => rfl
theorem dev_m (L : Lg) : ∀ d : Nat, (L.dev d).2.m = L.m
  | 0 => rfl
  | 1 => by
    unfold Lg.dev
    cases hI : L.I with
    | nil => simp [hI]
    | cons x r => simp [hI]
  | 2 => rfl
  | 3 => rfl
  | 4 => rfl
  | 5 => rfl
  | 6 => rfl
  | _ + 7 => rfl
theorem into_stays (L : Lg) (v : Int) : ∀ d : Nat, (L.into v d).1 ≠ 0 → (L.into v d).2 = L
  | 0, _ => rfl
  | 1, h => absurd rfl h
  | 2, _ => rfl
  | 3, h => absurd rfl h
  | 4, h => absurd rfl h
  | 5, h => absurd rfl h
  | _ + 6, _ => rfl
theorem into_m (L : Lg) (v : Int) : ∀ d : Nat, d ≠ 5 → (L.into v d).2.m = L.m
  | 0, _ => rfl
  | 1, h => by
    show (if L.O.length < 65536 then ({ L with O := L.O ++ [v % 256] } : Lg) else L).m = L.m
    split <;> rfl
  | 2, _ => rfl
  | 3, _ => rfl
  | 4, _ => rfl
  | 5, h => absurd rfl h
  | _ + 6, _ => rfl
theorem moved_m (L : Lg) (c : Int) : (L.moved c).2.m = L.m ∨ (L.moved c).2.m = L.m + 1 := by
  unfold Lg.moved
  repeat' split
  all_goals first | exact .inl rfl | exact .inr rfl
theorem into_m1 (L : Lg) (v : Int) (d : Nat) : (L.into v d).2.m = L.m ∨ (L.into v d).2.m = L.m + 1 := by
  by_cases h : d = 5
  · subst h; exact moved_m L v
  · exact .inl (into_m L v d h)
theorem devN_cmd {a : Int} (h : devN a = 5) : a = 4294967252 := by
  unfold devN at h
  repeat' split at h
  all_goals first | (cases h; done) | assumption
theorem lstep_stays (L : Lg) (k a v : Int) (h : (L.step k a v).1.2 ≠ 0) : (L.step k a v).2 = L := by
  unfold Lg.step at h ⊢
  split
  · rfl
  · rename_i h0
    rw [if_neg h0] at h
    split
    · rename_i h1
      rw [if_pos h1] at h
      unfold Lg.load at h ⊢
      split
      · rfl
      · rename_i hw
        rw [if_neg hw] at h
        exact dev_stays L _ h
    · rename_i h1
      rw [if_neg h1] at h
      split
      · rfl
      · rename_i h2
        rw [if_neg h2] at h
        split
        · rename_i h3
          rw [if_pos h3] at h
          unfold Lg.store at h ⊢
          split
          · rename_i hw
            rw [if_pos hw] at h
            exact absurd rfl h
          · rename_i hw
            rw [if_neg hw] at h
            exact into_stays L v _ h
        · rename_i h3
          rw [if_neg h3] at h
          split
          · rename_i h4
            rw [if_pos h4] at h
            unfold Lg.stb at h ⊢
            split
            · rename_i hw
              rw [if_pos hw] at h
              exact absurd rfl h
            · rfl
          · rfl
theorem lstep_m (L : Lg) (k a v : Int) (h : ¬ (k = 3 ∧ a = 4294967252)) : (L.step k a v).2.m = L.m := by
  unfold Lg.step
  split
  · rfl
  · split
    · unfold Lg.load
      split
      · rfl
      · exact dev_m L _
    · split
      · rfl
      · split
        · unfold Lg.store
          split
          · rfl
          · exact into_m L v _ fun e => h ⟨by assumption, devN_cmd e⟩
        · split
          · unfold Lg.stb
            split <;> rfl
          · rfl
theorem lstep_m1 (L : Lg) (k a v : Int) : (L.step k a v).2.m = L.m ∨ (L.step k a v).2.m = L.m + 1 := by
  unfold Lg.step
  split
  · exact .inl rfl
  · split
    · unfold Lg.load
      split
      · exact .inl rfl
      · exact .inl (dev_m L _)
    · split
      · exact .inl rfl
      · split
        · unfold Lg.store
          split
          · exact .inl rfl
          · exact into_m1 L v _
        · split
          · unfold Lg.stb
            split <;> exact .inl rfl
          · exact .inl rfl
/-- What traps asks nothing of memory. -/
theorem traps_asks {m : Ms} (h : m.c.execT (decI m.word) = true) : m.did = ((0, 0), m.L) := by
  have hF : ¬ (decI m.word).F = 2 := by
    intro e
    simp [Cpu.Cp.execT, e] at h
  have : m.asks = { K := 0, D := 0, V := 0 } := by
    unfold Ms.asks accA
    rw [if_neg (fun e => hF e.2)]
  unfold Ms.did
  rw [this]; rfl
/-- A step that does not go on leaves all but the count as it was. -/
theorem step_kept {m : Ms} (h : m.step.1.2.k ≠ 0) : m.step.2 = m ∨ m.step.2 = { m with st := m.st + 1 } := by
  by_cases h1 : isW m.c.PC = true
  · by_cases h2 : decOk m.word = true
    · by_cases h3 : m.did.1.2 = 1
      · have e : m.did.2 = m.L := lstep_stays _ _ _ _ (by unfold Ms.did at h3; rw [h3]; decide)
        left
        unfold Ms.step; rw [if_pos h1, if_pos h2, if_pos h3]
        show ({ m with L := m.did.2 } : Ms) = m
        rw [e]
      · by_cases h4 : m.did.1.2 = 2
        · have e : m.did.2 = m.L := lstep_stays _ _ _ _ (by unfold Ms.did at h4; rw [h4]; decide)
          left
          unfold Ms.step; rw [if_pos h1, if_pos h2, if_neg h3, if_pos h4]
          show ({ m with L := m.did.2 } : Ms) = m
          rw [e]
        · by_cases h5 : m.c.execT (decI m.word) = true
          · right
            have e : m.counted = { m with st := m.st + 1 } := by
              unfold Ms.counted; rw [traps_asks h5]
            unfold Ms.step at h ⊢
            rw [if_pos h1, if_pos h2, if_neg h3, if_neg h4, if_pos h5] at h ⊢
            rcases trapped_kind m.counted (m.c.execN (decI m.word)) with hk | ⟨_, hk⟩
            · exact absurd hk h
            · show (m.counted.trapped (m.c.execN (decI m.word))).2 = _
              rw [hk, e]
          · exfalso
            unfold Ms.step at h
            rw [if_pos h1, if_pos h2, if_neg h3, if_neg h4, if_neg h5] at h
            exact h rfl
    · left
      unfold Ms.step; rw [if_pos h1, if_neg h2]
  · left
    unfold Ms.step; rw [if_neg h1]
/-- The writes that a step that goes on does: one at most, and none but by a command. -/
theorem step_m1 {m : Ms} (h : m.step.1.2.k = 0) : m.step.2.L.m = m.L.m ∨ m.step.2.L.m = m.L.m + 1 := by
  rw [(step_goes h).2.2.1]; exact lstep_m1 _ _ _ _
theorem step_m0 {m : Ms} (h : m.step.1.2.k = 0) (hc : isCmd m.step.1.1 = false) : m.step.2.L.m = m.L.m := by
  rw [(step_goes h).2.2.1]
  rw [(step_goes h).2.2.2] at hc
  refine lstep_m _ _ _ _ fun ⟨e1, e2⟩ => ?_
  unfold isCmd at hc
  rw [e1, e2] at hc
  exact absurd hc (by decide)
theorem step_gone {m : Ms} (h : m.step.1.2.k = 0) (hc : isCmd m.step.1.1 = false) (hg : m.gone = false) : m.step.2.gone = false := by
  unfold Ms.gone at hg ⊢
  rw [(step_goes h).2.1, step_m0 h hc]; exact hg
/-- A stretch, and then a run, is a run. -/
theorem stretch_run : ∀ (n : Nat) (m : Ms), m.gone = false → ((m.stretch n).1.k ≠ 0 → m.run n = m.stretch n) ∧ ((m.stretch n).1.k = 0 → ∃ k : Nat, k < n ∧ (m.stretch n).2.st = m.st + ((n - k : Nat) : Int) ∧ m.run n = (m.stretch n).2.run k) ∧ (m.stretch n).2.cut = m.cut
  | 0, m, hg => by
    refine ⟨fun _ => ?_, fun h => absurd h (by simp [Ms.stretch, enAt]), rfl⟩
    simp [Ms.run, Ms.stretch, hg]
  | n + 1, m, hg => by
    by_cases h : m.step.1.2.k = 0
    · by_cases hc : isCmd m.step.1.1 = false
      · have ih := stretch_run n m.step.2 (step_gone h hc hg)
        have e : m.stretch (n + 1) = m.step.2.stretch n := by simp [Ms.stretch, h, hc]
        have e2 : m.run (n + 1) = m.step.2.run n := by simp [Ms.run, h, hg]
        rw [e, e2]
        refine ⟨ih.1, fun hk => ?_, ih.2.2.trans (step_goes h).2.1⟩
        obtain ⟨k, k1, k2, k3⟩ := ih.2.1 hk
        exact ⟨k, by omega, by rw [k2, (step_goes h).1]; omega, k3⟩
      · have e : m.stretch (n + 1) = (m.step.1.2, m.step.2) := by simp [Ms.stretch, h, hc]
        have e2 : m.run (n + 1) = m.step.2.run n := by simp [Ms.run, h, hg]
        rw [e, e2]
        exact ⟨fun hk => absurd h hk, fun _ => ⟨n, by omega, by rw [(step_goes h).1]; omega, rfl⟩, (step_goes h).2.1⟩
    · have e : m.stretch (n + 1) = (m.step.1.2, m.step.2) := by simp [Ms.stretch, h]
      have e2 : m.run (n + 1) = (m.step.1.2, m.step.2) := by simp [Ms.run, h, hg]
      rw [e, e2]
      exact ⟨fun _ => rfl, fun hk => absurd hk h, by rcases step_kept h with e | e <;> rw [e]⟩
end Go.Proofs.YteegkhnikcioiaaGreatDoor

namespace Go.Proofs.YteegkhnikcioiaaGreatDoor
open Go.ChangeShapes Go.WideShapes Go.ChangeAt Go.RowKit
open Cpu (Cp In Ac En decOk decI accA rightB)
set_option linter.unusedVariables false

def mcells (b : Nat) (m : Ms) : Array Value := #[.pointer (some ⟨b, 0, none⟩), .int .u32 (m.c.R 0), .int .u32 (m.c.R 1), .int .u32 (m.c.R 2), .int .u32 (m.c.R 3), .int .u32 (m.c.R 4), .int .u32 (m.c.R 5), .int .u32 (m.c.R 6), .int .u32 (m.c.R 7), .int .u32 (m.c.R 8), .int .u32 (m.c.R 9), .int .u32 (m.c.R 10), .int .u32 (m.c.R 11), .int .u32 (m.c.R 12), .int .u32 (m.c.R 13), .int .u32 (m.c.R 14), .int .u32 (m.c.R 15), .int .u32 m.c.H, .bool m.c.N, .bool m.c.Z, .bool m.c.C, .bool m.c.V, .int .u32 m.c.PC, .int .i64 m.st, .int .i64 m.cut]
theorem mc_size (b : Nat) (m : Ms) : (mcells b m).size = 25 := rfl
theorem mc_cpu (b : Nat) (m : Ms) : (mcells b m).extract 1 23 = m.c.cells := by kernel_rfl
theorem mc_at0 (b : Nat) (m : Ms) : (mcells b m)[0]? = some (.pointer (some ⟨b, 0, none⟩)) := rfl
theorem mc_at22 (b : Nat) (m : Ms) : (mcells b m)[22]? = some (.int .u32 m.c.PC) := rfl
theorem mc_at23 (b : Nat) (m : Ms) : (mcells b m)[23]? = some (.int .i64 m.st) := rfl
theorem mc_at24 (b : Nat) (m : Ms) : (mcells b m)[24]? = some (.int .i64 m.cut) := rfl
theorem mc_set22 (b : Nat) (m : Ms) (x : Int) : (mcells b m).setIfInBounds 22 (.int .u32 x) = mcells b { m with c := { m.c with PC := x } } := rfl
theorem mc_set23 (b : Nat) (m : Ms) (x : Int) : (mcells b m).setIfInBounds 23 (.int .i64 x) = mcells b { m with st := x } := rfl
theorem mc_set24 (b : Nat) (m : Ms) (x : Int) : (mcells b m).setIfInBounds 24 (.int .i64 x) = mcells b { m with cut := x } := rfl
theorem mc_put (b : Nat) (m : Ms) (d : Cp) : putList (mcells b m) 1 d.cells.toList = mcells b { m with c := d } := by kernel_rfl
def MM (p b : Nat) (P : Ph) (x : Nat) : Prop := x = p ∨ P.all b x
def i64B (x : Int) : Prop := -9223372036854775808 ≤ x ∧ x ≤ 9223372036854775807
structure Ms.Ok (m : Ms) : Prop where
  c : m.c.Ok
  st : 0 ≤ m.st ∧ m.st ≤ 4611686018427387904
  cut : i64B m.cut
structure Mac (w : World) (p b : Nat) (P : Ph) (m : Ms) : Prop where
  bus : Bus w b P m.L
  blk : rowAt w p = some (mcells b m)
  room : roomAt w p 25 = true
  ne : ¬ P.all b p
  ways : Cpu.Ways w
  z : ∀ x, MM p b P x → 0 < x
  plt : p < w.heap.size
  ok : m.Ok
theorem ways_same {w w' : World} (h : Cpu.Ways w) (hs : w.heap.size ≤ w'.heap.size) (h0 : w'.heap[0]? = w.heap[0]?) : Cpu.Ways w' :=
  ⟨Nat.lt_of_lt_of_le h.big hs, fun o f a b c d => by
    have := h.at_ o f a b c d
    simpa [World.cell?, h0] using this⟩
theorem Mac.keep {w w' : World} {p b : Nat} {P : Ph} {m : Ms} (h : Mac w p b P m) (hs : w.heap.size ≤ w'.heap.size) (hw : ∀ x, x < w.heap.size → MM p b P x ∨ x = 0 → w'.heap[x]? = w.heap[x]?) : Mac w' p b P m where
  bus := h.bus.keep hs fun x hx => hw x (h.bus.lt x hx) (.inl (.inr hx))
  blk := (rowAt_same (hw p h.plt (.inl (.inl rfl)))).trans h.blk
  room := (roomAt_same (hw p h.plt (.inl (.inl rfl)))).trans h.room
  ne := h.ne
  ways := ways_same h.ways hs (hw 0 h.ways.big (.inr rfl))
  z := h.z
  plt := Nat.lt_of_lt_of_le h.plt hs
  ok := h.ok
theorem Mac.below {w w' : World} {p b : Nat} {P : Ph} {m : Ms} (h : Mac w p b P m) (hb : Below w.heap.size w w') : Mac w' p b P m := h.keep hb.size fun x hx _ => hb.block x hx
structure MStp (w : World) (p b : Nat) (P : Ph) (w' : World) (P' : Ph) (m' : Ms) : Prop where
  mac : Mac w' p b P' m'
  tou : Tou (MM p b P) w w'
  new : ∀ x, P'.all b x → P.all b x ∨ w.heap.size ≤ x
  db : P'.db = P.db
theorem MStp.refl {w : World} {p b : Nat} {P : Ph} {m : Ms} (h : Mac w p b P m) : MStp w p b P w P m := ⟨h, Tou.refl _ _, fun _ hx => .inl hx, rfl⟩
theorem MStp.trans {w w1 w2 : World} {p b : Nat} {P P1 P2 : Ph} {m1 m2 : Ms} (h : MStp w p b P w1 P1 m1) (k : MStp w1 p b P1 w2 P2 m2) : MStp w p b P w2 P2 m2 :=
  ⟨k.mac, h.tou.trans k.tou fun x hx hn => hn.elim .inl fun hn => .inr ((h.new x hn).resolve_right (by omega)), fun x hx => (k.new x hx).elim (fun e => h.new x e) fun e => .inr (Nat.le_trans h.tou.size e), k.db.trans h.db⟩
theorem MStp.below {w w1 : World} {p b : Nat} {P : Ph} {m : Ms} (h : Mac w p b P m) (hb : Below w.heap.size w w1) : MStp w p b P w1 P m := ⟨h.below hb, Below.tou hb _, fun _ hx => .inl hx, rfl⟩
/-- A step of its bus. -/
theorem Mac.stp {w w' : World} {p b : Nat} {P P' : Ph} {m : Ms} {L' : Lg} (h : Mac w p b P m) (hs : Stp w b P w' P' L') : MStp w p b P w' P' { m with L := L' } where
  mac := {
    bus := hs.bus
    blk := (rowAt_same (hs.tou.block p h.plt h.ne)).trans h.blk
    room := (roomAt_same (hs.tou.block p h.plt h.ne)).trans h.room
    ne := fun e => (hs.new p e).elim h.ne fun e => absurd h.plt (by omega)
    ways := ways_same h.ways hs.tou.size (hs.tou.block 0 h.ways.big fun e => absurd (h.z 0 (.inr e)) (by omega))
    z := fun x hx => hx.elim (fun e => h.z x (.inl e)) fun e => (hs.new x e).elim (fun e => h.z x (.inr e)) fun e => Nat.lt_of_lt_of_le h.ways.big e
    plt := Nat.lt_of_lt_of_le h.plt hs.tou.size
    ok := ⟨h.ok.c, h.ok.st, h.ok.cut⟩ }
  tou := ⟨hs.tou.os, hs.tou.tape, hs.tou.output, hs.tou.size, fun k hk hm => hs.tou.block k hk fun e => hm (.inr e)⟩
  new := hs.new
  db := hs.db
/-- Cells of the machine itself are stored. -/
theorem Mac.cells {w w' : World} {p b : Nat} {P : Ph} {m m' : Ms} (h : Mac w p b P m) (hL : m'.L = m.L) (hok : m'.Ok) (hs : w'.heap.size = w.heap.size) (hx : ∀ x, x ≠ p → w'.heap[x]? = w.heap[x]?) (ho : w'.os = w.os ∧ w'.tape = w.tape ∧ w'.output = w.output) (hr : rowAt w' p = some (mcells b m')) (hm : roomAt w' p 25 = true) : MStp w p b P w' P m' where
  mac := {
    bus := by rw [hL]; exact h.bus.keep (by omega) fun x hx' => hx x fun e => h.ne (e ▸ hx')
    blk := hr
    room := hm
    ne := h.ne
    ways := ways_same h.ways (by omega) (hx 0 fun e => absurd (h.z p (.inl rfl)) (by omega))
    z := h.z
    plt := by rw [hs]; exact h.plt
    ok := hok }
  tou := ⟨ho.1, ho.2.1, ho.2.2, by omega, fun k _ hm => hx k fun e => hm (.inl e)⟩
  new := fun _ hx => .inl hx
  db := rfl
theorem room_blk {w : World} {p n : Nat} {X : Array Value} (hr : rowAt w p = some X) (hm : roomAt w p n = true) : ∃ t, w.heap[p]? = some (.cells X t (0, 0)) ∧ X.size = n := by
  unfold roomAt at hm
  unfold rowAt at hr
  split at hm
  case h_2 => cases hm
  rename_i Y t fr hY
  rw [hY] at hr
  have e : Y = X := Option.some.inj hr
  simp only [Bool.and_eq_true, beq_iff_eq] at hm
  subst e
  exact ⟨t, by rw [hY, hm.2], hm.1⟩
theorem Mac.put {w : World} {p b : Nat} {P : Ph} {m m' : Ms} (h : Mac w p b P m) (j : Nat) (v : Value) (hc : (mcells b m).setIfInBounds j v = mcells b m') (hL : m'.L = m.L) (hok : m'.Ok) : MStp w p b P (w.setCell ⟨p, j, none⟩ v) P m' := by
  obtain ⟨t, hY, hsz⟩ := room_blk h.blk h.room
  have b6 := Go.Joins.block_setCell (i := j) hY v
  refine h.cells hL hok (by simp) (fun x hx => Below.heap_setCell _ _ _ _ hx) ⟨rfl, rfl, rfl⟩ ?_ ?_
  · unfold rowAt; rw [b6]; exact congrArg some hc
  · unfold roomAt; rw [b6]; simp [hsz]
theorem setCells_other (b x : Nat) (hx : x ≠ b) : ∀ (vs : List Value) (k : Nat) (w : World), (w.setCells b k vs).heap[x]? = w.heap[x]?
  | [], _, _ => rfl
  | v :: r, k, w => by rw [World.setCells, setCells_other b x hx r (k + 1) _]; exact Below.heap_setCell _ _ _ _ hx
theorem setCells_os (b : Nat) : ∀ (vs : List Value) (k : Nat) (w : World), (w.setCells b k vs).os = w.os ∧ (w.setCells b k vs).tape = w.tape ∧ (w.setCells b k vs).output = w.output
  | [], _, _ => ⟨rfl, rfl, rfl⟩
  | v :: r, k, w => by
    rw [World.setCells]
    obtain ⟨a, b', c⟩ := setCells_os b r (k + 1) (w.setCell ⟨b, k, none⟩ v)
    exact ⟨a.trans rfl, b'.trans rfl, c.trans rfl⟩
/-- The processor is stored. -/
theorem putMid_is (w : World) (b : Nat) (X : Array Value) : ∃ w' : World, w' = w.setCells b 1 X.toList := ⟨_, rfl⟩
noncomputable def putMid (w : World) (b : Nat) (X : Array Value) : World := Classical.choose (putMid_is w b X)
theorem putMid_eq (w : World) (b : Nat) (X : Array Value) : putMid w b X = w.setCells b 1 X.toList := Classical.choose_spec (putMid_is w b X)
theorem Mac.putCpu {w : World} {p b : Nat} {P : Ph} {m : Ms} (h : Mac w p b P m) (d : Cp) (hd : d.Ok) : MStp w p b P (putMid w p d.cells) P { m with c := d } := by
  obtain ⟨t, hY, hsz⟩ := room_blk h.blk h.room
  have b6 := setCells_heap d.cells.toList 1 w _ hY
  rw [putMid_eq]
  refine h.cells rfl ⟨hd, h.ok.st, h.ok.cut⟩ (size_setCells _ _ _ _) (fun x hx => setCells_other _ _ hx _ _ _) (setCells_os _ _ _ _) ?_ ?_
  · unfold rowAt; rw [b6, mc_put]
  · unfold roomAt; rw [b6, mc_put]; simp [mc_size]
def loadMid (a : Addr) : Sem Value := Cpu.loadCpu a
theorem loadMid_run (w : World) (b : Nat) : (Cpu.loadCpu ⟨b, 1, none⟩).run Tryz.prog w = (match Cpu.rowAt w b with
    | some X => if X.size = 25 then .ok (.agg (X.extract 1 23)) w else (Cpu.loadCpu ⟨b, 1 + 0, none⟩).run Tryz.prog w
    | none => (Cpu.loadCpu ⟨b, 1 + 0, none⟩).run Tryz.prog w) := by
  split
  · rename_i X hX
    split
    · rename_i hs
      have hl : (X.extract 1 23).toList.length = 22 := by simp; omega
      have := run_loadVar_mid (P := Tryz.prog) w b 1 45 (X.extract 1 23).toList _ (fun j v hv => by
        rw [Cpu.rowAt_cell hX]
        have hj : j < 22 := by
          have := (List.getElem?_eq_some_iff.1 hv).1
          omega
        rw [← hv, Array.getElem?_toList, Array.getElem?_extract, if_pos (by omega)]) Tryz.underlying45 rfl (by rw [hl]; exact Cpu.Tryz.sizeCpu)
      rw [Array.toArray_toList] at this
      exact this
    · rfl
  · rfl
theorem storeMid_run (w : World) (b : Nat) (c : Cp) (h : Cpu.roomAt w b 25 = true) : (Cpu.storeCpu ⟨b, 1, none⟩ (.agg c.cells)).run Tryz.prog w = .ok () (putMid w b c.cells) := by
  rw [putMid_eq]
  refine run_storeVar_mid w b 1 45 c.cells (fun j hj => ?_) Cpu.Tryz.sizeCpu (by simp [Cpu.Cp.cells, Value.oneCell'])
  have := Cpu.room_there h (1 + j) (by have : c.cells.size = 22 := rfl; omega)
  simpa using this
end Go.Proofs.YteegkhnikcioiaaGreatDoor
