/-
  Layer 9: a call.
-/
import Derived.Test.YtllhcjmabhempaaDoorFld
import Derived.Test.YtllhcjmabhempaaDoorSet
import Derived.Deep.DeepCutAuto
namespace Go.Proofs.YtllhcjmabhempaaDoor
set_option linter.unusedVariables false
set_option linter.unusedSimpArgs false
open Go.ChangeShapes Go.WideShapes Go.ChangeAt Go.RowKit


attribute [local go_sem] fieldTk0 fieldTk3 fieldTk1 hmf
attribute [local go_sem ↓] bslNd_seal
attribute [local go_sem] bslNd1_run bslNd2_run

attribute [local go_sem ↓] appN_seal
theorem nd_all : ∀ (cs : List Nc), ∀ u ∈ ndC cs, u.oneCell' = true
  | [], u, h => by simp [ndC] at h
  | c :: r, u, h => by
    rw [ndC] at h
    rcases List.mem_append.1 h with h | h
    · exact nd_one c u h
    · exact nd_all r u h
/-- A row of trees of one sort, as the kids of a node. -/
theorem kids_of {X : World} {B g cap n : Nat} {P : Nat → Prop} {l : List Nd} {cs : List Nc} (hl : cs.length = l.length) (own : X.ownsRow B 31 6 (.slice (some ⟨g, 0, none⟩) n cap) cs.length (ndC cs)) (hP : P g) (hn : ∀ j (h : j < cs.length) (h2 : j < l.length), NdAt X P cs[j] l[j]) : KidsAt X P (some ⟨g, 0, none⟩) 0 l := by
  have hq := own_lt' own (q := g) rfl
  have key : ∀ (n j : Nat), l.length - j = n → j ≤ l.length → KidsAt X P (some ⟨g, 0, none⟩) j (l.drop j) := by
    intro n
    induction n with
    | zero => intro j hj hl; rw [List.drop_of_length_le (by omega)]; exact KidsAt.nil _ _
    | succ n ih =>
      intro j hj hl2
      have hlt : j < l.length := by omega
      have hlc : j < cs.length := by rw [hl]; exact hlt
      rw [List.drop_eq_getElem_cons hlt]
      refine KidsAt.cons g j cs[j] l[j] _ hP hq.1 (fun i hi => ?_) (hn j hlc hlt) (ih (j + 1) (by omega) (by omega))
      have e := ndC_at cs j hlc i hi
      have hs : (cs[j]).cells[i]? = some ((cs[j]).cells[i]'(by rw [Nc.size]; exact hi)) := Array.getElem?_eq_getElem _
      rw [hs] at e ⊢
      have := World.ownsRow.cells own (g := g) rfl _ _ e
      rwa [show (⟨g, 0, none⟩ : Addr).add (j * 6 + i) = ⟨g, j * 6 + i, none⟩ by simp [Addr.add]; omega] at this
  have := key l.length 0 (by omega) (Nat.zero_le _)
  rwa [List.drop_zero] at this
theorem own_one {X : World} {B blk : Nat} {c : Nc} (hb : X.heap[blk]? = some (.cells c.cells 31 (0, 0))) (hB : B ≤ blk) : X.ownsRow B 31 6 (.slice (some ⟨blk, 0, none⟩) 1 1) 1 (ndC [c]) := by
  refine ⟨rfl, .inr ⟨blk, 1, c.cells, rfl, hB, hb, Nat.le_refl _, by decide, rfl, ?_⟩⟩
  simp [ndC, Nc.cells]
theorem own_mono {X : World} {B B' : Nat} {e : TypeId} {k : Nat} {v : Value} {n : Nat} {xs : List Value} (h : X.ownsRow B e k v n xs) (hB : B' ≤ B) : X.ownsRow B' e k v n xs :=
  ⟨h.1, h.2.imp id fun ⟨g, cap, cur, a, b, c⟩ => ⟨g, cap, cur, a, Nat.le_trans hB b, c⟩⟩
/-- Behind the append of a row of trees to one tree: the kids. -/
structure Apd (X Y : World) (B blk : Nat) (P : Nat → Prop) (v : Value) (l : List Nd) (g cap : Nat) : Prop where
  val : v = .slice (some ⟨g, 0, none⟩) l.length cap
  new : B ≤ g
  kids : KidsAt Y P (some ⟨g, 0, none⟩) 0 l
  gb : X.grownBy Y (some blk)
theorem apd_run {X : World} {B blk g4 m4 : Nat} {c : Nc} {n1 : Nd} {l : List Nd} {cs : List Nc} {P : Nat → Prop} (hb : X.heap[blk]? = some (.cells c.cells 31 (0, 0))) (hB : B ≤ blk) (hBX : B ≤ X.heap.size) (hr : X.ownsRow B 31 6 (.slice (some ⟨g4, 0, none⟩) l.length m4) cs.length (ndC cs)) (hl : cs.length = l.length) (h0 : 0 < l.length) (hm : l.length ≤ 100000)
    (hPb : P blk) (hPn : ∀ x, X.heap.size ≤ x → P x) (hn1 : NdAt X (fun x => P x ∧ x ≠ blk) c n1) (hn : ∀ j (h : j < cs.length) (h2 : j < l.length), NdAt X (fun x => P x ∧ x ≠ blk) cs[j] l[j]) :
    ∃ v Y g cap, (appN #[29, 29] 29 #[.slice (some ⟨blk, 0, none⟩) 1 1, .slice (some ⟨g4, 0, none⟩) l.length m4]).run Tryd.prog X = .ok v Y ∧ Apd X Y B blk P v (n1 :: l) g cap := by
  obtain ⟨i0, hi0, hz0, hz1, hz2⟩ := info_parts infoNd
  have O := own_one hb hB
  have cells : ∀ j u, (ndC cs)[j]? = some u → X.cell? ((⟨g4, 0, none⟩ : Addr).add j) = some u := fun j u h => World.ownsRow.cells hr (g := g4) rfl j u h
  obtain ⟨v6, w6, hrun6, hown6, hgrow6, _⟩ := run_append_own (P := Tryd.prog) (w := X) B 29 29 31 i0 _ 6 72 Tryd.underlying29 hi0 hz0 hz1 hz2 rfl (by decide) (.slice (some ⟨blk, 0, none⟩) 1 1) 1 _ O ⟨g4, 0, none⟩ l.length m4 (ndC cs) (by rw [ndC_len, hl]) cells (nd_all _) (by unfold maxLen; omega) (by omega) hBX
  have hblk := append_block (P := Tryd.prog) (w := X) B 29 29 31 i0 _ 6 72 Tryd.underlying29 hi0 hz0 hz1 hz2 (.slice (some ⟨blk, 0, none⟩) 1 1) 1 _ O ⟨g4, 0, none⟩ l.length m4 (ndC cs) h0 (by rw [ndC_len, hl]) cells (nd_all _) (by unfold maxLen; omega) (by omega) hrun6
  refine ⟨v6, w6, ?_⟩
  rcases hown6.2 with ⟨_, hz⟩ | ⟨g2, cp, cur, rfl, h1, h2, _⟩
  · omega
  · refine ⟨g2, cp, hrun6, ?_, h1, ?_, hgrow6⟩
    · rw [List.length_cons, Nat.add_comm]
    · have ho : w6.ownsRow B 31 6 (.slice (some ⟨g2, 0, none⟩) (1 + l.length) cp) (c :: cs).length (ndC (c :: cs)) := by
        have e1 : (c :: cs).length = 1 + l.length := by rw [List.length_cons, hl, Nat.add_comm]
        have e2 : ndC (c :: cs) = ndC [c] ++ ndC cs := by rw [← ndC_app]; rfl
        rw [e1, e2]; exact hown6
      have hPg : P g2 := by
        simp only [Value.ownBlock, Option.some.injEq] at hblk
        rcases hblk with e | e
        · rw [e]; exact hPb
        · exact hPn _ (by omega)
      refine kids_of (by simp [hl]) ho hPg (fun j hj hj2 => ?_)
      have kp : ∀ {c' : Nc} {n' : Nd}, NdAt X (fun x => P x ∧ x ≠ blk) c' n' → NdAt w6 P c' n' := fun hh => hh.keep (fun x hx _ => hx.1) hgrow6.size (fun x hx hl => hgrow6.block x hl (fun e => hx.2 (by simpa [Value.ownBlock] using e)))
      cases j with
      | zero => exact kp hn1
      | succ j => exact kp (hn j (by simpa using hj) (by simpa using hj2))
def calR (f o : Nat) (n1 : Nd) (t : List Tok) : Rs Nd := (beginR o t).bind fun x r => (if wd r = [41] then .ok (lst []) r else run f (.row [44] .expr []) (o + 1) r).bind fun y s => (mustR [41] s).bind fun _ u => .ok (.mk 35 [] 0 false (n1 :: y.kids) x.p) u
set_option maxHeartbeats 4000000 in
set_option maxRecDepth 20000 in
theorem call_deep (w : World) (b g cap : Nat) (L : List Tok) (i : Nat) (h : RdAt w b g cap L i 24) (c : Nc) (P : Nat → Prop) :
    Calls Tryd.prog 87 #[.pointer (some ⟨b, 0, none⟩), .agg c.cells] w (PostP w b g cap L i 24 P (.bad (hd (L.drop i)).p 91)) := by
  have PA : Hid (∀ X, RdAt X b g cap L i 24 → Calls Tryd.prog 76 #[.pointer (some ⟨b, 0, none⟩)] X _) := fun X hX => begin_no X b g cap L i hX
  have H : Hid (RdAt w b g cap L i 24) := h
  have bl := h.bl
  have gl := h.gl
  have hq4 : w.heap.size ≠ b := by omega
  have S0 := (((St.refl H.out).alloc (.cells c.cells 31)).alloc (.cells (⟨0, ⟨#[]⟩, 0, false, none, 0, 0, 0⟩ : Nc).cells 31)).drew
  clear h
  generalize (hd (L.drop i)).p = pp at PA ⊢
  go_enter Tryd.func87, Tryd.ntmps87
  go_upto_region 1 with fail
  refine wp_region_held_drew (S := (fun X => rowAt X w.heap.size = some c.cells)) (by kernel_rfl) ((rowAt_drew _ _).trans ((rowAt_old _ _ _ (by simp)).trans (rowAt_at _ _ _ _ _ rfl))) (fun hHeld => ?_)
  refine wpAnyH_take (i := 0) (v := ?_) rfl (by kernel_rfl) (by kernel_rfl) (by kernel_rfl) (fun _ _ _ h => h) (Or.inl ⟨by rfl, ?yk1⟩) hHeld ?rk1
  case yk1 => (intro w2 hSw; (try dsimp only at hSw); go_simp; try rfl)
  simp only [Act.put, List.setIfInBounds_toArray, List.set_cons_zero, List.set_cons_succ]
  refine wpAnyH_take (i := 3) (v := ?_) rfl (by kernel_rfl) (by kernel_rfl) (by kernel_rfl) (fun _ _ _ h => h) (Or.inl ⟨by rfl, ?yk2⟩) hHeld ?rk2
  case yk2 => (intro w2 hSw; (try dsimp only at hSw); go_simp; try rfl)
  simp only [Act.put, List.setIfInBounds_toArray, List.set_cons_zero, List.set_cons_succ]
  refine wpAnyH_ready (rs := [1, 4, 6]) (by kernel_rfl) (by simp) ?_
  refine .cons rfl (fun K hK => ?_) (.cons rfl (fun K hK => ?_) (.cons rfl (fun K hK => ?_) .nil))
  · go_simp
    go_wp2_with (go_at_call 76; refine (PA.out _ S0.rd).mono ?_; rintro e w5 ⟨he, g5⟩; unfold gaveUp at he; subst he)
    exact ⟨rfl, rfl, gb_trans S0.gb g5⟩
  · go_simp
    have g3 : (((w.alloc (.cells c.cells 31)).alloc (.cells (⟨0, ⟨#[]⟩, 0, false, none, 0, 0, 0⟩ : Nc).cells 31)).drew).grownBy ((((w.alloc (.cells c.cells 31)).alloc (.cells (⟨0, ⟨#[]⟩, 0, false, none, 0, 0, 0⟩ : Nc).cells 31)).drew).alloc (.cells c.cells 31)) (some b) := gb_of_below (by go_grown) b
    have zg3 := g3.size
    (try simp at zg3)
    have hh4 := hold1_gb hHeld g3 hq4
    refine hK.out _ _ hh4 (fun _ => ?_)
    clear hK K
    have S5 := S0.alloc (.cells c.cells 31)
    refine wpAnyH_ready (rs := [1, 6]) (by kernel_rfl) (by simp) ?_
    refine .cons rfl (fun K hK => ?_) (.cons rfl (fun K hK => ?_) .nil)
    · go_simp
      go_wp2_with (go_at_call 76; refine (PA.out _ S5.rd).mono ?_; rintro e w5 ⟨he, g5⟩; unfold gaveUp at he; subst he)
      exact ⟨rfl, rfl, gb_trans S5.gb g5⟩
    · go_simp
      have g6 : ((((w.alloc (.cells c.cells 31)).alloc (.cells (⟨0, ⟨#[]⟩, 0, false, none, 0, 0, 0⟩ : Nc).cells 31)).drew).alloc (.cells c.cells 31)).grownBy (((((w.alloc (.cells c.cells 31)).alloc (.cells (⟨0, ⟨#[]⟩, 0, false, none, 0, 0, 0⟩ : Nc).cells 31)).drew).alloc (.cells c.cells 31)).alloc (.cells (⟨0, ⟨#[]⟩, 0, false, none, 0, 0, 0⟩ : Nc).cells 31)) (some b) := gb_of_below (by go_grown) b
      have zg6 := g6.size
      (try simp at zg6)
      have hh7 := hold1_gb hh4 g6 hq4
      refine hK.out _ _ hh7 (fun _ => ?_)
      clear hK K
      have S8 := S5.alloc (.cells (⟨0, ⟨#[]⟩, 0, false, none, 0, 0, 0⟩ : Nc).cells 31)
      refine wpAnyH_ready (rs := [1]) (by kernel_rfl) (by simp) ?_
      refine .cons rfl (fun K hK => ?_) .nil
      go_simp
      go_wp2_with (go_at_call 76; refine (PA.out _ S8.rd).mono ?_; rintro e w5 ⟨he, g5⟩; unfold gaveUp at he; subst he)
      exact ⟨rfl, rfl, gb_trans S8.gb g5⟩
  · go_simp
    have g9 : (((w.alloc (.cells c.cells 31)).alloc (.cells (⟨0, ⟨#[]⟩, 0, false, none, 0, 0, 0⟩ : Nc).cells 31)).drew).grownBy ((((w.alloc (.cells c.cells 31)).alloc (.cells (⟨0, ⟨#[]⟩, 0, false, none, 0, 0, 0⟩ : Nc).cells 31)).drew).alloc (.cells (⟨0, ⟨#[]⟩, 0, false, none, 0, 0, 0⟩ : Nc).cells 31)) (some b) := gb_of_below (by go_grown) b
    have zg9 := g9.size
    (try simp at zg9)
    have hh10 := hold1_gb hHeld g9 hq4
    refine hK.out _ _ hh10 (fun _ => ?_)
    clear hK K
    have S11 := S0.alloc (.cells (⟨0, ⟨#[]⟩, 0, false, none, 0, 0, 0⟩ : Nc).cells 31)
    refine wpAnyH_ready (rs := [1, 4]) (by kernel_rfl) (by simp) ?_
    refine .cons rfl (fun K hK => ?_) (.cons rfl (fun K hK => ?_) .nil)
    · go_simp
      go_wp2_with (go_at_call 76; refine (PA.out _ S11.rd).mono ?_; rintro e w5 ⟨he, g5⟩; unfold gaveUp at he; subst he)
      exact ⟨rfl, rfl, gb_trans S11.gb g5⟩
    · go_simp
      have g12 : ((((w.alloc (.cells c.cells 31)).alloc (.cells (⟨0, ⟨#[]⟩, 0, false, none, 0, 0, 0⟩ : Nc).cells 31)).drew).alloc (.cells (⟨0, ⟨#[]⟩, 0, false, none, 0, 0, 0⟩ : Nc).cells 31)).grownBy (((((w.alloc (.cells c.cells 31)).alloc (.cells (⟨0, ⟨#[]⟩, 0, false, none, 0, 0, 0⟩ : Nc).cells 31)).drew).alloc (.cells (⟨0, ⟨#[]⟩, 0, false, none, 0, 0, 0⟩ : Nc).cells 31)).alloc (.cells c.cells 31)) (some b) := gb_of_below (by go_grown) b
      have zg12 := g12.size
      (try simp at zg12)
      have hh13 := hold1_gb hh10 g12 hq4
      refine hK.out _ _ hh13 (fun _ => ?_)
      clear hK K
      have S14 := S11.alloc (.cells c.cells 31)
      refine wpAnyH_ready (rs := [1]) (by kernel_rfl) (by simp) ?_
      refine .cons rfl (fun K hK => ?_) .nil
      go_simp
      go_wp2_with (go_at_call 76; refine (PA.out _ S14.rd).mono ?_; rintro e w5 ⟨he, g5⟩; unfold gaveUp at he; subst he)
      exact ⟨rfl, rfl, gb_trans S14.gb g5⟩
set_option maxHeartbeats 4000000 in
set_option maxRecDepth 20000 in
theorem call_none (w : World) (b g cap : Nat) (L : List Tok) (i o : Nat) (h : RdAt w b g cap L i o) (hk : (hd (L.drop i)).k ≠ 0) (c : Nc) (P : Nat → Prop) (hP1 : ∀ x, P x → x ≠ b) (hP2 : ∀ x, w.heap.size ≤ x → P x) (n1 : Nd) (hc : NdAt w P c n1) (ho : o < 24) (hw : wd (L.drop (i + 1)) = [41]) :
    Calls Tryd.prog 87 #[.pointer (some ⟨b, 0, none⟩), .agg c.cells] w (PostP w b g cap L i o P (.ok (.mk 35 [] 0 false [n1] (hd (L.drop i)).p) (L.drop (i + 1 + 1)))) := by
  have PA : Hid (∀ X, RdAt X b g cap L i o → Calls Tryd.prog 76 #[.pointer (some ⟨b, 0, none⟩)] X _) := fun X hX => begin_yes X b g cap L i o hX ho hk
  have H : Hid (RdAt w b g cap L i o) := h
  have HC : Hid (NdAt w P c n1) := hc
  have bl := h.bl
  have gl := h.gl
  have hq4 : w.heap.size ≠ b := by omega
  have S0 := (((St.refl H.out).alloc (.cells c.cells 31)).alloc (.cells (⟨0, ⟨#[]⟩, 0, false, none, 0, 0, 0⟩ : Nc).cells 31)).drew
  clear h hk hc
  obtain ⟨tk, htk⟩ : ∃ tk, tk = hd (L.drop i) := ⟨_, rfl⟩
  rw [← htk] at PA ⊢
  clear htk
  have HR : True := trivial
  have kw := rk (wd (L.drop (i + 1)))
  have d1 : decide (wd (L.drop (i + 1)) = [41]) = true := by simpa using hw
  have MY : Hid (∀ X, RdAt X b g cap L (i + 1) (o + 1) → Calls Tryd.prog 30 #[.pointer (some ⟨b, 0, none⟩), .string (bs [41])] X _) := fun X hX => must_yes X b g cap L (i + 1) (o + 1) hX [41] (by decide) hw
  clear hw
  go_enter Tryd.func87, Tryd.ntmps87
  go_upto_region 1 with fail
  go_cut [5] (fun s8 Y => ∃ q, s8 = .pointer (some ⟨q, 0, none⟩) ∧ FldAt w Y b g cap L (i + 1) (o + 1) 35 c tk q)
  case first =>
    clear HR
    refine wp_region_held_drew (S := (fun X => rowAt X w.heap.size = some c.cells)) (by kernel_rfl) ((rowAt_drew _ _).trans ((rowAt_old _ _ _ (by simp)).trans (rowAt_at _ _ _ _ _ rfl))) (fun hHeld => ?_)
    refine wpAnyH_take (i := 0) (v := ?_) rfl (by kernel_rfl) (by kernel_rfl) (by kernel_rfl) (fun _ _ _ h => h) (Or.inl ⟨by rfl, ?yk1⟩) hHeld ?rk1
    case yk1 => (intro w2 hSw; (try dsimp only at hSw); go_simp; try rfl)
    simp only [Act.put, List.setIfInBounds_toArray, List.set_cons_zero, List.set_cons_succ]
    refine wpAnyH_take (i := 3) (v := ?_) rfl (by kernel_rfl) (by kernel_rfl) (by kernel_rfl) (fun _ _ _ h => h) (Or.inl ⟨by rfl, ?yk2⟩) hHeld ?rk2
    case yk2 => (intro w2 hSw; (try dsimp only at hSw); go_simp; try rfl)
    simp only [Act.put, List.setIfInBounds_toArray, List.set_cons_zero, List.set_cons_succ]
    refine wpAnyH_ready (rs := [1, 4, 6]) (by kernel_rfl) (by simp) ?_
    refine .cons rfl (fun K hK => ?_) (.cons rfl (fun K hK => ?_) (.cons rfl (fun K hK => ?_) .nil))
    · go_simp
      go_wp2_with (go_at_call 76; refine (PA.out _ S0.rd).mono ?_; rintro e w5 ⟨rfl, s5⟩)
      have g3 : (((w.alloc (.cells c.cells 31)).alloc (.cells (⟨0, ⟨#[]⟩, 0, false, none, 0, 0, 0⟩ : Nc).cells 31)).drew).grownBy (w5) (some b) := s5.gb
      have zg3 := g3.size
      (try simp at zg3)
      have hh4 := hold1_gb hHeld g3 hq4
      refine hK.out _ _ hh4 (fun _ => ?_)
      clear hK K
      have S5 := S0.next s5
      refine wpAnyH_take (i := 2) (v := ?_) rfl (by kernel_rfl) (by kernel_rfl) (by kernel_rfl) (fun _ _ _ h => h) (Or.inl ⟨by rfl, ?yk6⟩) hh4 ?rk6
      case yk6 => (intro w2 hSw; (try dsimp only at hSw); go_simp; try rfl)
      simp only [Act.put, List.setIfInBounds_toArray, List.set_cons_zero, List.set_cons_succ]
      refine wpAnyH_ready (rs := [4, 6]) (by kernel_rfl) (by simp) ?_
      refine .cons rfl (fun K hK => ?_) (.cons rfl (fun K hK => ?_) .nil)
      · go_simp
        have g7 : (w5).grownBy ((w5).alloc (.cells c.cells 31)) (some b) := gb_of_below (by go_grown) b
        have zg7 := g7.size
        (try simp at zg7)
        have hh8 := hold1_gb hh4 g7 hq4
        refine hK.out _ _ hh8 (fun _ => ?_)
        clear hK K
        have S9 := S5.alloc (.cells c.cells 31)
        refine wpAnyH_ready (rs := [5, 6]) (by kernel_rfl) (by simp) ?_
        refine .cons rfl (fun K hK => ?_) (.cons rfl (fun K hK => ?_) .nil)
        · go_simp
          go_wp2_with (go_at_call 59; refine (node_any _ _ _ _ _ _).mono ?_; rintro e w6 ⟨rfl, hb6⟩)
          have g10 : ((w5).alloc (.cells c.cells 31)).grownBy (w6) (some b) := gb_of_below hb6 b
          have zg10 := g10.size
          (try simp at zg10)
          have hh11 := hold1_gb hh8 g10 hq4
          refine hK.out _ _ hh11 (fun _ => ?_)
          clear hK K
          have S12 := S9.below hb6
          refine wpAnyH_ready (rs := [6]) (by kernel_rfl) (by simp) ?_
          refine .cons rfl (fun K hK => ?_) .nil
          go_simp
          have g13 : (w6).grownBy ((w6).alloc (.cells (⟨0, ⟨#[]⟩, 0, false, none, 0, 0, 0⟩ : Nc).cells 31)) (some b) := gb_of_below (by go_grown) b
          have zg13 := g13.size
          (try simp at zg13)
          have hh14 := hold1_gb hh11 g13 hq4
          refine hK.out _ _ hh14 (fun _ => ?_)
          clear hK K
          have S15 := S12.alloc (.cells (⟨0, ⟨#[]⟩, 0, false, none, 0, 0, 0⟩ : Nc).cells 31)
          refine wpAnyH_ready (rs := [7]) (by kernel_rfl) (by simp) ?_
          refine .cons rfl (fun K hK => ?_) .nil
          have rm16 : roomAt ((w6).alloc (.cells (⟨0, ⟨#[]⟩, 0, false, none, 0, 0, 0⟩ : Nc).cells 31)) (w6.heap.size) 6 = true := roomNd_new _ _ _ _ (by simp)
          have n8 : w.heap.size + 1 < w6.heap.size := (by first | omega | (simp; done) | (simp; omega))
          have nb : w.heap.size + 1 < w5.heap.size := (by first | omega | (simp; done) | (simp; omega))
          have db : w5.heap.size ≠ w6.heap.size := (by first | omega | (simp; done) | (simp; omega))
          have SY : St w (putRow ((w6).alloc (.cells (⟨0, ⟨#[]⟩, 0, false, none, 0, 0, 0⟩ : Nc).cells 31)) (w6.heap.size) (⟨35, ⟨#[]⟩, 0, false, some ⟨w5.heap.size, 0, none⟩, 1, 1, (tk.p : Int)⟩ : Nc).cells) b g cap L (i + 1) (o + 1) := S15.old bl gl _ (by omega) _
          have m6 : roomAt (putRow ((w6).alloc (.cells (⟨0, ⟨#[]⟩, 0, false, none, 0, 0, 0⟩ : Nc).cells 31)) (w6.heap.size) (⟨35, ⟨#[]⟩, 0, false, some ⟨w5.heap.size, 0, none⟩, 1, 1, (tk.p : Int)⟩ : Nc).cells) (w.heap.size + 1) 6 = true := (room_far _ _ _ _ _ (by omega)).trans ((room_gb (gb_trans (gb_trans (gb_trans g3 g7) g10) g13) (by first | omega | (simp; done) | (simp; omega)) (by omega) 6).trans ((roomAt_drew _ _ _).trans (roomNd_new _ _ _ _ (by simp))))
          have mb : (putRow ((w6).alloc (.cells (⟨0, ⟨#[]⟩, 0, false, none, 0, 0, 0⟩ : Nc).cells 31)) (w6.heap.size) (⟨35, ⟨#[]⟩, 0, false, some ⟨w5.heap.size, 0, none⟩, 1, 1, (tk.p : Int)⟩ : Nc).cells).heap[w5.heap.size]? = some (.cells c.cells 31 (0, 0)) := (put_far _ _ _ _ db).trans ((((gb_trans g10 g13)).block (w5.heap.size) (by first | omega | (simp; done) | (simp; omega)) (by intro e; injection e with e; first | omega | (simp at e; omega))).trans (heap_new' _ _ (by simp)))
          have FIN : Hid (FldAt w (putRow ((w6).alloc (.cells (⟨0, ⟨#[]⟩, 0, false, none, 0, 0, 0⟩ : Nc).cells 31)) (w6.heap.size) (⟨35, ⟨#[]⟩, 0, false, some ⟨w5.heap.size, 0, none⟩, 1, 1, (tk.p : Int)⟩ : Nc).cells) b g cap L (i + 1) (o + 1) 35 c tk (w6.heap.size)) := ⟨w5.heap.size, SY, rowNd_put _ _ _ rm16, room_keep rm16 _ rfl, m6, n8, nb, db, mb⟩
          have HY : Hid (rowAt (putRow ((w6).alloc (.cells (⟨0, ⟨#[]⟩, 0, false, none, 0, 0, 0⟩ : Nc).cells 31)) (w6.heap.size) (⟨35, ⟨#[]⟩, 0, false, some ⟨w5.heap.size, 0, none⟩, 1, 1, (tk.p : Int)⟩ : Nc).cells) w.heap.size = some c.cells) := (row_far _ _ _ _ (by omega)).trans hh14
          clear SY m6 mb nb n8 db s5 g3 g7 g10 g13 S15
          rw [putNd_new _ _ _ _ _ (by simp)] at FIN HY
          go_simp
          refine hK.out _ _ HY.out (fun _ => ?_)
          clear hK K
          refine wpAnyH_done (by kernel_rfl) ?_ _
          go_wp2_with fail
          go_meet
          exact ⟨_, rfl, FIN.out⟩
        · go_simp
          have g17 : ((w5).alloc (.cells c.cells 31)).grownBy (((w5).alloc (.cells c.cells 31)).alloc (.cells (⟨0, ⟨#[]⟩, 0, false, none, 0, 0, 0⟩ : Nc).cells 31)) (some b) := gb_of_below (by go_grown) b
          have zg17 := g17.size
          (try simp at zg17)
          have hh18 := hold1_gb hh8 g17 hq4
          refine hK.out _ _ hh18 (fun _ => ?_)
          clear hK K
          have S19 := S9.alloc (.cells (⟨0, ⟨#[]⟩, 0, false, none, 0, 0, 0⟩ : Nc).cells 31)
          refine wpAnyH_ready (rs := [5]) (by kernel_rfl) (by simp) ?_
          refine .cons rfl (fun K hK => ?_) .nil
          go_simp
          go_wp2_with (go_at_call 59; refine (node_any _ _ _ _ _ _).mono ?_; rintro e w6 ⟨rfl, hb6⟩)
          have g20 : (((w5).alloc (.cells c.cells 31)).alloc (.cells (⟨0, ⟨#[]⟩, 0, false, none, 0, 0, 0⟩ : Nc).cells 31)).grownBy (w6) (some b) := gb_of_below hb6 b
          have zg20 := g20.size
          (try simp at zg20)
          have hh21 := hold1_gb hh18 g20 hq4
          refine hK.out _ _ hh21 (fun _ => ?_)
          clear hK K
          have S22 := S19.below hb6
          refine wpAnyH_ready (rs := [7]) (by kernel_rfl) (by simp) ?_
          refine .cons rfl (fun K hK => ?_) .nil
          have rm23 : roomAt (w6) (w5.heap.size + 1) 6 = true := (room_gb g20 (by first | omega | (simp; done) | (simp; omega)) (by first | omega | (simp; done) | (simp; omega)) 6).trans (roomNd_new _ _ _ _ (by simp))
          have n8 : w.heap.size + 1 < w5.heap.size + 1 := (by first | omega | (simp; done) | (simp; omega))
          have nb : w.heap.size + 1 < w5.heap.size := (by first | omega | (simp; done) | (simp; omega))
          have db : w5.heap.size ≠ w5.heap.size + 1 := (by first | omega | (simp; done) | (simp; omega))
          have SY : St w (putRow (w6) (w5.heap.size + 1) (⟨35, ⟨#[]⟩, 0, false, some ⟨w5.heap.size, 0, none⟩, 1, 1, (tk.p : Int)⟩ : Nc).cells) b g cap L (i + 1) (o + 1) := S22.old bl gl _ (by omega) _
          have m6 : roomAt (putRow (w6) (w5.heap.size + 1) (⟨35, ⟨#[]⟩, 0, false, some ⟨w5.heap.size, 0, none⟩, 1, 1, (tk.p : Int)⟩ : Nc).cells) (w.heap.size + 1) 6 = true := (room_far _ _ _ _ _ (by omega)).trans ((room_gb (gb_trans (gb_trans (gb_trans g3 g7) g17) g20) (by first | omega | (simp; done) | (simp; omega)) (by omega) 6).trans ((roomAt_drew _ _ _).trans (roomNd_new _ _ _ _ (by simp))))
          have mb : (putRow (w6) (w5.heap.size + 1) (⟨35, ⟨#[]⟩, 0, false, some ⟨w5.heap.size, 0, none⟩, 1, 1, (tk.p : Int)⟩ : Nc).cells).heap[w5.heap.size]? = some (.cells c.cells 31 (0, 0)) := (put_far _ _ _ _ db).trans ((((gb_trans g17 g20)).block (w5.heap.size) (by first | omega | (simp; done) | (simp; omega)) (by intro e; injection e with e; first | omega | (simp at e; omega))).trans (heap_new' _ _ (by simp)))
          have FIN : Hid (FldAt w (putRow (w6) (w5.heap.size + 1) (⟨35, ⟨#[]⟩, 0, false, some ⟨w5.heap.size, 0, none⟩, 1, 1, (tk.p : Int)⟩ : Nc).cells) b g cap L (i + 1) (o + 1) 35 c tk (w5.heap.size + 1)) := ⟨w5.heap.size, SY, rowNd_put _ _ _ rm23, room_keep rm23 _ rfl, m6, n8, nb, db, mb⟩
          have HY : Hid (rowAt (putRow (w6) (w5.heap.size + 1) (⟨35, ⟨#[]⟩, 0, false, some ⟨w5.heap.size, 0, none⟩, 1, 1, (tk.p : Int)⟩ : Nc).cells) w.heap.size = some c.cells) := (row_far _ _ _ _ (by omega)).trans hh21
          clear SY m6 mb nb n8 db s5 g3 g7 g17 g20 S22
          go_simp
          refine hK.out _ _ HY.out (fun _ => ?_)
          clear hK K
          refine wpAnyH_done (by kernel_rfl) ?_ _
          go_wp2_with fail
          go_meet
          exact ⟨_, rfl, FIN.out⟩
      · go_simp
        have g24 : (w5).grownBy ((w5).alloc (.cells (⟨0, ⟨#[]⟩, 0, false, none, 0, 0, 0⟩ : Nc).cells 31)) (some b) := gb_of_below (by go_grown) b
        have zg24 := g24.size
        (try simp at zg24)
        have hh25 := hold1_gb hh4 g24 hq4
        refine hK.out _ _ hh25 (fun _ => ?_)
        clear hK K
        have S26 := S5.alloc (.cells (⟨0, ⟨#[]⟩, 0, false, none, 0, 0, 0⟩ : Nc).cells 31)
        refine wpAnyH_ready (rs := [4]) (by kernel_rfl) (by simp) ?_
        refine .cons rfl (fun K hK => ?_) .nil
        go_simp
        have g27 : ((w5).alloc (.cells (⟨0, ⟨#[]⟩, 0, false, none, 0, 0, 0⟩ : Nc).cells 31)).grownBy (((w5).alloc (.cells (⟨0, ⟨#[]⟩, 0, false, none, 0, 0, 0⟩ : Nc).cells 31)).alloc (.cells c.cells 31)) (some b) := gb_of_below (by go_grown) b
        have zg27 := g27.size
        (try simp at zg27)
        have hh28 := hold1_gb hh25 g27 hq4
        refine hK.out _ _ hh28 (fun _ => ?_)
        clear hK K
        have S29 := S26.alloc (.cells c.cells 31)
        refine wpAnyH_ready (rs := [5]) (by kernel_rfl) (by simp) ?_
        refine .cons rfl (fun K hK => ?_) .nil
        go_simp
        go_wp2_with (go_at_call 59; refine (node_any _ _ _ _ _ _).mono ?_; rintro e w6 ⟨rfl, hb6⟩)
        have g30 : (((w5).alloc (.cells (⟨0, ⟨#[]⟩, 0, false, none, 0, 0, 0⟩ : Nc).cells 31)).alloc (.cells c.cells 31)).grownBy (w6) (some b) := gb_of_below hb6 b
        have zg30 := g30.size
        (try simp at zg30)
        have hh31 := hold1_gb hh28 g30 hq4
        refine hK.out _ _ hh31 (fun _ => ?_)
        clear hK K
        have S32 := S29.below hb6
        refine wpAnyH_ready (rs := [7]) (by kernel_rfl) (by simp) ?_
        refine .cons rfl (fun K hK => ?_) .nil
        have rm33 : roomAt (w6) (w5.heap.size) 6 = true := (room_gb (gb_trans g27 g30) (by first | omega | (simp; done) | (simp; omega)) (by first | omega | (simp; done) | (simp; omega)) 6).trans (roomNd_new _ _ _ _ (by simp))
        have n8 : w.heap.size + 1 < w5.heap.size := (by first | omega | (simp; done) | (simp; omega))
        have nb : w.heap.size + 1 < w5.heap.size + 1 := (by first | omega | (simp; done) | (simp; omega))
        have db : w5.heap.size + 1 ≠ w5.heap.size := (by first | omega | (simp; done) | (simp; omega))
        have SY : St w (putRow (w6) (w5.heap.size) (⟨35, ⟨#[]⟩, 0, false, some ⟨w5.heap.size + 1, 0, none⟩, 1, 1, (tk.p : Int)⟩ : Nc).cells) b g cap L (i + 1) (o + 1) := S32.old bl gl _ (by omega) _
        have m6 : roomAt (putRow (w6) (w5.heap.size) (⟨35, ⟨#[]⟩, 0, false, some ⟨w5.heap.size + 1, 0, none⟩, 1, 1, (tk.p : Int)⟩ : Nc).cells) (w.heap.size + 1) 6 = true := (room_far _ _ _ _ _ (by omega)).trans ((room_gb (gb_trans (gb_trans (gb_trans g3 g24) g27) g30) (by first | omega | (simp; done) | (simp; omega)) (by omega) 6).trans ((roomAt_drew _ _ _).trans (roomNd_new _ _ _ _ (by simp))))
        have mb : (putRow (w6) (w5.heap.size) (⟨35, ⟨#[]⟩, 0, false, some ⟨w5.heap.size + 1, 0, none⟩, 1, 1, (tk.p : Int)⟩ : Nc).cells).heap[w5.heap.size + 1]? = some (.cells c.cells 31 (0, 0)) := (put_far _ _ _ _ db).trans (((g30).block (w5.heap.size + 1) (by first | omega | (simp; done) | (simp; omega)) (by intro e; injection e with e; first | omega | (simp at e; omega))).trans (heap_new' _ _ (by simp)))
        have FIN : Hid (FldAt w (putRow (w6) (w5.heap.size) (⟨35, ⟨#[]⟩, 0, false, some ⟨w5.heap.size + 1, 0, none⟩, 1, 1, (tk.p : Int)⟩ : Nc).cells) b g cap L (i + 1) (o + 1) 35 c tk (w5.heap.size)) := ⟨w5.heap.size + 1, SY, rowNd_put _ _ _ rm33, room_keep rm33 _ rfl, m6, n8, nb, db, mb⟩
        have HY : Hid (rowAt (putRow (w6) (w5.heap.size) (⟨35, ⟨#[]⟩, 0, false, some ⟨w5.heap.size + 1, 0, none⟩, 1, 1, (tk.p : Int)⟩ : Nc).cells) w.heap.size = some c.cells) := (row_far _ _ _ _ (by omega)).trans hh31
        clear SY m6 mb nb n8 db s5 g3 g24 g27 g30 S32
        go_simp
        refine hK.out _ _ HY.out (fun _ => ?_)
        clear hK K
        refine wpAnyH_done (by kernel_rfl) ?_ _
        go_wp2_with fail
        go_meet
        exact ⟨_, rfl, FIN.out⟩
    · go_simp
      have g34 : (((w.alloc (.cells c.cells 31)).alloc (.cells (⟨0, ⟨#[]⟩, 0, false, none, 0, 0, 0⟩ : Nc).cells 31)).drew).grownBy ((((w.alloc (.cells c.cells 31)).alloc (.cells (⟨0, ⟨#[]⟩, 0, false, none, 0, 0, 0⟩ : Nc).cells 31)).drew).alloc (.cells c.cells 31)) (some b) := gb_of_below (by go_grown) b
      have zg34 := g34.size
      (try simp at zg34)
      have hh35 := hold1_gb hHeld g34 hq4
      refine hK.out _ _ hh35 (fun _ => ?_)
      clear hK K
      have S36 := S0.alloc (.cells c.cells 31)
      refine wpAnyH_ready (rs := [1, 6]) (by kernel_rfl) (by simp) ?_
      refine .cons rfl (fun K hK => ?_) (.cons rfl (fun K hK => ?_) .nil)
      · go_simp
        go_wp2_with (go_at_call 76; refine (PA.out _ S36.rd).mono ?_; rintro e w5 ⟨rfl, s5⟩)
        have g37 : ((((w.alloc (.cells c.cells 31)).alloc (.cells (⟨0, ⟨#[]⟩, 0, false, none, 0, 0, 0⟩ : Nc).cells 31)).drew).alloc (.cells c.cells 31)).grownBy (w5) (some b) := s5.gb
        have zg37 := g37.size
        (try simp at zg37)
        have hh38 := hold1_gb hh35 g37 hq4
        refine hK.out _ _ hh38 (fun _ => ?_)
        clear hK K
        have S39 := S36.next s5
        refine wpAnyH_take (i := 2) (v := ?_) rfl (by kernel_rfl) (by kernel_rfl) (by kernel_rfl) (fun _ _ _ h => h) (Or.inl ⟨by rfl, ?yk40⟩) hh38 ?rk40
        case yk40 => (intro w2 hSw; (try dsimp only at hSw); go_simp; try rfl)
        simp only [Act.put, List.setIfInBounds_toArray, List.set_cons_zero, List.set_cons_succ]
        refine wpAnyH_ready (rs := [5, 6]) (by kernel_rfl) (by simp) ?_
        refine .cons rfl (fun K hK => ?_) (.cons rfl (fun K hK => ?_) .nil)
        · go_simp
          go_wp2_with (go_at_call 59; refine (node_any _ _ _ _ _ _).mono ?_; rintro e w6 ⟨rfl, hb6⟩)
          have g41 : (w5).grownBy (w6) (some b) := gb_of_below hb6 b
          have zg41 := g41.size
          (try simp at zg41)
          have hh42 := hold1_gb hh38 g41 hq4
          refine hK.out _ _ hh42 (fun _ => ?_)
          clear hK K
          have S43 := S39.below hb6
          refine wpAnyH_ready (rs := [6]) (by kernel_rfl) (by simp) ?_
          refine .cons rfl (fun K hK => ?_) .nil
          go_simp
          have g44 : (w6).grownBy ((w6).alloc (.cells (⟨0, ⟨#[]⟩, 0, false, none, 0, 0, 0⟩ : Nc).cells 31)) (some b) := gb_of_below (by go_grown) b
          have zg44 := g44.size
          (try simp at zg44)
          have hh45 := hold1_gb hh42 g44 hq4
          refine hK.out _ _ hh45 (fun _ => ?_)
          clear hK K
          have S46 := S43.alloc (.cells (⟨0, ⟨#[]⟩, 0, false, none, 0, 0, 0⟩ : Nc).cells 31)
          refine wpAnyH_ready (rs := [7]) (by kernel_rfl) (by simp) ?_
          refine .cons rfl (fun K hK => ?_) .nil
          have rm47 : roomAt ((w6).alloc (.cells (⟨0, ⟨#[]⟩, 0, false, none, 0, 0, 0⟩ : Nc).cells 31)) (w6.heap.size) 6 = true := roomNd_new _ _ _ _ (by simp)
          have n8 : w.heap.size + 1 < w6.heap.size := (by first | omega | (simp; done) | (simp; omega))
          have nb : w.heap.size + 1 < w.heap.size + 2 := (by first | omega | (simp; done) | (simp; omega))
          have db : w.heap.size + 2 ≠ w6.heap.size := (by first | omega | (simp; done) | (simp; omega))
          have SY : St w (putRow ((w6).alloc (.cells (⟨0, ⟨#[]⟩, 0, false, none, 0, 0, 0⟩ : Nc).cells 31)) (w6.heap.size) (⟨35, ⟨#[]⟩, 0, false, some ⟨w.heap.size + 2, 0, none⟩, 1, 1, (tk.p : Int)⟩ : Nc).cells) b g cap L (i + 1) (o + 1) := S46.old bl gl _ (by omega) _
          have m6 : roomAt (putRow ((w6).alloc (.cells (⟨0, ⟨#[]⟩, 0, false, none, 0, 0, 0⟩ : Nc).cells 31)) (w6.heap.size) (⟨35, ⟨#[]⟩, 0, false, some ⟨w.heap.size + 2, 0, none⟩, 1, 1, (tk.p : Int)⟩ : Nc).cells) (w.heap.size + 1) 6 = true := (room_far _ _ _ _ _ (by omega)).trans ((room_gb (gb_trans (gb_trans (gb_trans g34 g37) g41) g44) (by first | omega | (simp; done) | (simp; omega)) (by omega) 6).trans ((roomAt_drew _ _ _).trans (roomNd_new _ _ _ _ (by simp))))
          have mb : (putRow ((w6).alloc (.cells (⟨0, ⟨#[]⟩, 0, false, none, 0, 0, 0⟩ : Nc).cells 31)) (w6.heap.size) (⟨35, ⟨#[]⟩, 0, false, some ⟨w.heap.size + 2, 0, none⟩, 1, 1, (tk.p : Int)⟩ : Nc).cells).heap[w.heap.size + 2]? = some (.cells c.cells 31 (0, 0)) := (put_far _ _ _ _ db).trans ((((gb_trans (gb_trans g37 g41) g44)).block (w.heap.size + 2) (by first | omega | (simp; done) | (simp; omega)) (by intro e; injection e with e; first | omega | (simp at e; omega))).trans (heap_new' _ _ (by simp)))
          have FIN : Hid (FldAt w (putRow ((w6).alloc (.cells (⟨0, ⟨#[]⟩, 0, false, none, 0, 0, 0⟩ : Nc).cells 31)) (w6.heap.size) (⟨35, ⟨#[]⟩, 0, false, some ⟨w.heap.size + 2, 0, none⟩, 1, 1, (tk.p : Int)⟩ : Nc).cells) b g cap L (i + 1) (o + 1) 35 c tk (w6.heap.size)) := ⟨w.heap.size + 2, SY, rowNd_put _ _ _ rm47, room_keep rm47 _ rfl, m6, n8, nb, db, mb⟩
          have HY : Hid (rowAt (putRow ((w6).alloc (.cells (⟨0, ⟨#[]⟩, 0, false, none, 0, 0, 0⟩ : Nc).cells 31)) (w6.heap.size) (⟨35, ⟨#[]⟩, 0, false, some ⟨w.heap.size + 2, 0, none⟩, 1, 1, (tk.p : Int)⟩ : Nc).cells) w.heap.size = some c.cells) := (row_far _ _ _ _ (by omega)).trans hh45
          clear SY m6 mb nb n8 db s5 g34 g37 g41 g44 S46
          rw [putNd_new _ _ _ _ _ (by simp)] at FIN HY
          go_simp
          refine hK.out _ _ HY.out (fun _ => ?_)
          clear hK K
          refine wpAnyH_done (by kernel_rfl) ?_ _
          go_wp2_with fail
          go_meet
          exact ⟨_, rfl, FIN.out⟩
        · go_simp
          have g48 : (w5).grownBy ((w5).alloc (.cells (⟨0, ⟨#[]⟩, 0, false, none, 0, 0, 0⟩ : Nc).cells 31)) (some b) := gb_of_below (by go_grown) b
          have zg48 := g48.size
          (try simp at zg48)
          have hh49 := hold1_gb hh38 g48 hq4
          refine hK.out _ _ hh49 (fun _ => ?_)
          clear hK K
          have S50 := S39.alloc (.cells (⟨0, ⟨#[]⟩, 0, false, none, 0, 0, 0⟩ : Nc).cells 31)
          refine wpAnyH_ready (rs := [5]) (by kernel_rfl) (by simp) ?_
          refine .cons rfl (fun K hK => ?_) .nil
          go_simp
          go_wp2_with (go_at_call 59; refine (node_any _ _ _ _ _ _).mono ?_; rintro e w6 ⟨rfl, hb6⟩)
          have g51 : ((w5).alloc (.cells (⟨0, ⟨#[]⟩, 0, false, none, 0, 0, 0⟩ : Nc).cells 31)).grownBy (w6) (some b) := gb_of_below hb6 b
          have zg51 := g51.size
          (try simp at zg51)
          have hh52 := hold1_gb hh49 g51 hq4
          refine hK.out _ _ hh52 (fun _ => ?_)
          clear hK K
          have S53 := S50.below hb6
          refine wpAnyH_ready (rs := [7]) (by kernel_rfl) (by simp) ?_
          refine .cons rfl (fun K hK => ?_) .nil
          have rm54 : roomAt (w6) (w5.heap.size) 6 = true := (room_gb g51 (by first | omega | (simp; done) | (simp; omega)) (by first | omega | (simp; done) | (simp; omega)) 6).trans (roomNd_new _ _ _ _ (by simp))
          have n8 : w.heap.size + 1 < w5.heap.size := (by first | omega | (simp; done) | (simp; omega))
          have nb : w.heap.size + 1 < w.heap.size + 2 := (by first | omega | (simp; done) | (simp; omega))
          have db : w.heap.size + 2 ≠ w5.heap.size := (by first | omega | (simp; done) | (simp; omega))
          have SY : St w (putRow (w6) (w5.heap.size) (⟨35, ⟨#[]⟩, 0, false, some ⟨w.heap.size + 2, 0, none⟩, 1, 1, (tk.p : Int)⟩ : Nc).cells) b g cap L (i + 1) (o + 1) := S53.old bl gl _ (by omega) _
          have m6 : roomAt (putRow (w6) (w5.heap.size) (⟨35, ⟨#[]⟩, 0, false, some ⟨w.heap.size + 2, 0, none⟩, 1, 1, (tk.p : Int)⟩ : Nc).cells) (w.heap.size + 1) 6 = true := (room_far _ _ _ _ _ (by omega)).trans ((room_gb (gb_trans (gb_trans (gb_trans g34 g37) g48) g51) (by first | omega | (simp; done) | (simp; omega)) (by omega) 6).trans ((roomAt_drew _ _ _).trans (roomNd_new _ _ _ _ (by simp))))
          have mb : (putRow (w6) (w5.heap.size) (⟨35, ⟨#[]⟩, 0, false, some ⟨w.heap.size + 2, 0, none⟩, 1, 1, (tk.p : Int)⟩ : Nc).cells).heap[w.heap.size + 2]? = some (.cells c.cells 31 (0, 0)) := (put_far _ _ _ _ db).trans ((((gb_trans (gb_trans g37 g48) g51)).block (w.heap.size + 2) (by first | omega | (simp; done) | (simp; omega)) (by intro e; injection e with e; first | omega | (simp at e; omega))).trans (heap_new' _ _ (by simp)))
          have FIN : Hid (FldAt w (putRow (w6) (w5.heap.size) (⟨35, ⟨#[]⟩, 0, false, some ⟨w.heap.size + 2, 0, none⟩, 1, 1, (tk.p : Int)⟩ : Nc).cells) b g cap L (i + 1) (o + 1) 35 c tk (w5.heap.size)) := ⟨w.heap.size + 2, SY, rowNd_put _ _ _ rm54, room_keep rm54 _ rfl, m6, n8, nb, db, mb⟩
          have HY : Hid (rowAt (putRow (w6) (w5.heap.size) (⟨35, ⟨#[]⟩, 0, false, some ⟨w.heap.size + 2, 0, none⟩, 1, 1, (tk.p : Int)⟩ : Nc).cells) w.heap.size = some c.cells) := (row_far _ _ _ _ (by omega)).trans hh52
          clear SY m6 mb nb n8 db s5 g34 g37 g48 g51 S53
          go_simp
          refine hK.out _ _ HY.out (fun _ => ?_)
          clear hK K
          refine wpAnyH_done (by kernel_rfl) ?_ _
          go_wp2_with fail
          go_meet
          exact ⟨_, rfl, FIN.out⟩
      · go_simp
        have g55 : ((((w.alloc (.cells c.cells 31)).alloc (.cells (⟨0, ⟨#[]⟩, 0, false, none, 0, 0, 0⟩ : Nc).cells 31)).drew).alloc (.cells c.cells 31)).grownBy (((((w.alloc (.cells c.cells 31)).alloc (.cells (⟨0, ⟨#[]⟩, 0, false, none, 0, 0, 0⟩ : Nc).cells 31)).drew).alloc (.cells c.cells 31)).alloc (.cells (⟨0, ⟨#[]⟩, 0, false, none, 0, 0, 0⟩ : Nc).cells 31)) (some b) := gb_of_below (by go_grown) b
        have zg55 := g55.size
        (try simp at zg55)
        have hh56 := hold1_gb hh35 g55 hq4
        refine hK.out _ _ hh56 (fun _ => ?_)
        clear hK K
        have S57 := S36.alloc (.cells (⟨0, ⟨#[]⟩, 0, false, none, 0, 0, 0⟩ : Nc).cells 31)
        refine wpAnyH_ready (rs := [1]) (by kernel_rfl) (by simp) ?_
        refine .cons rfl (fun K hK => ?_) .nil
        go_simp
        go_wp2_with (go_at_call 76; refine (PA.out _ S57.rd).mono ?_; rintro e w5 ⟨rfl, s5⟩)
        have g58 : (((((w.alloc (.cells c.cells 31)).alloc (.cells (⟨0, ⟨#[]⟩, 0, false, none, 0, 0, 0⟩ : Nc).cells 31)).drew).alloc (.cells c.cells 31)).alloc (.cells (⟨0, ⟨#[]⟩, 0, false, none, 0, 0, 0⟩ : Nc).cells 31)).grownBy (w5) (some b) := s5.gb
        have zg58 := g58.size
        (try simp at zg58)
        have hh59 := hold1_gb hh56 g58 hq4
        refine hK.out _ _ hh59 (fun _ => ?_)
        clear hK K
        have S60 := S57.next s5
        refine wpAnyH_take (i := 2) (v := ?_) rfl (by kernel_rfl) (by kernel_rfl) (by kernel_rfl) (fun _ _ _ h => h) (Or.inl ⟨by rfl, ?yk61⟩) hh59 ?rk61
        case yk61 => (intro w2 hSw; (try dsimp only at hSw); go_simp; try rfl)
        simp only [Act.put, List.setIfInBounds_toArray, List.set_cons_zero, List.set_cons_succ]
        refine wpAnyH_ready (rs := [5]) (by kernel_rfl) (by simp) ?_
        refine .cons rfl (fun K hK => ?_) .nil
        go_simp
        go_wp2_with (go_at_call 59; refine (node_any _ _ _ _ _ _).mono ?_; rintro e w6 ⟨rfl, hb6⟩)
        have g62 : (w5).grownBy (w6) (some b) := gb_of_below hb6 b
        have zg62 := g62.size
        (try simp at zg62)
        have hh63 := hold1_gb hh59 g62 hq4
        refine hK.out _ _ hh63 (fun _ => ?_)
        clear hK K
        have S64 := S60.below hb6
        refine wpAnyH_ready (rs := [7]) (by kernel_rfl) (by simp) ?_
        refine .cons rfl (fun K hK => ?_) .nil
        have rm65 : roomAt (w6) (w.heap.size + 2 + 1) 6 = true := (room_gb (gb_trans g58 g62) (by first | omega | (simp; done) | (simp; omega)) (by first | omega | (simp; done) | (simp; omega)) 6).trans (roomNd_new _ _ _ _ (by simp))
        have n8 : w.heap.size + 1 < w.heap.size + 2 + 1 := (by first | omega | (simp; done) | (simp; omega))
        have nb : w.heap.size + 1 < w.heap.size + 2 := (by first | omega | (simp; done) | (simp; omega))
        have db : w.heap.size + 2 ≠ w.heap.size + 2 + 1 := (by first | omega | (simp; done) | (simp; omega))
        have SY : St w (putRow (w6) (w.heap.size + 2 + 1) (⟨35, ⟨#[]⟩, 0, false, some ⟨w.heap.size + 2, 0, none⟩, 1, 1, (tk.p : Int)⟩ : Nc).cells) b g cap L (i + 1) (o + 1) := S64.old bl gl _ (by omega) _
        have m6 : roomAt (putRow (w6) (w.heap.size + 2 + 1) (⟨35, ⟨#[]⟩, 0, false, some ⟨w.heap.size + 2, 0, none⟩, 1, 1, (tk.p : Int)⟩ : Nc).cells) (w.heap.size + 1) 6 = true := (room_far _ _ _ _ _ (by omega)).trans ((room_gb (gb_trans (gb_trans (gb_trans g34 g55) g58) g62) (by first | omega | (simp; done) | (simp; omega)) (by omega) 6).trans ((roomAt_drew _ _ _).trans (roomNd_new _ _ _ _ (by simp))))
        have mb : (putRow (w6) (w.heap.size + 2 + 1) (⟨35, ⟨#[]⟩, 0, false, some ⟨w.heap.size + 2, 0, none⟩, 1, 1, (tk.p : Int)⟩ : Nc).cells).heap[w.heap.size + 2]? = some (.cells c.cells 31 (0, 0)) := (put_far _ _ _ _ db).trans ((((gb_trans (gb_trans g55 g58) g62)).block (w.heap.size + 2) (by first | omega | (simp; done) | (simp; omega)) (by intro e; injection e with e; first | omega | (simp at e; omega))).trans (heap_new' _ _ (by simp)))
        have FIN : Hid (FldAt w (putRow (w6) (w.heap.size + 2 + 1) (⟨35, ⟨#[]⟩, 0, false, some ⟨w.heap.size + 2, 0, none⟩, 1, 1, (tk.p : Int)⟩ : Nc).cells) b g cap L (i + 1) (o + 1) 35 c tk (w.heap.size + 2 + 1)) := ⟨w.heap.size + 2, SY, rowNd_put _ _ _ rm65, room_keep rm65 _ rfl, m6, n8, nb, db, mb⟩
        have HY : Hid (rowAt (putRow (w6) (w.heap.size + 2 + 1) (⟨35, ⟨#[]⟩, 0, false, some ⟨w.heap.size + 2, 0, none⟩, 1, 1, (tk.p : Int)⟩ : Nc).cells) w.heap.size = some c.cells) := (row_far _ _ _ _ (by omega)).trans hh63
        clear SY m6 mb nb n8 db s5 g34 g55 g58 g62 S64
        go_simp
        refine hK.out _ _ HY.out (fun _ => ?_)
        clear hK K
        refine wpAnyH_done (by kernel_rfl) ?_ _
        go_wp2_with fail
        go_meet
        exact ⟨_, rfl, FIN.out⟩
    · go_simp
      have g66 : (((w.alloc (.cells c.cells 31)).alloc (.cells (⟨0, ⟨#[]⟩, 0, false, none, 0, 0, 0⟩ : Nc).cells 31)).drew).grownBy ((((w.alloc (.cells c.cells 31)).alloc (.cells (⟨0, ⟨#[]⟩, 0, false, none, 0, 0, 0⟩ : Nc).cells 31)).drew).alloc (.cells (⟨0, ⟨#[]⟩, 0, false, none, 0, 0, 0⟩ : Nc).cells 31)) (some b) := gb_of_below (by go_grown) b
      have zg66 := g66.size
      (try simp at zg66)
      have hh67 := hold1_gb hHeld g66 hq4
      refine hK.out _ _ hh67 (fun _ => ?_)
      clear hK K
      have S68 := S0.alloc (.cells (⟨0, ⟨#[]⟩, 0, false, none, 0, 0, 0⟩ : Nc).cells 31)
      refine wpAnyH_ready (rs := [1, 4]) (by kernel_rfl) (by simp) ?_
      refine .cons rfl (fun K hK => ?_) (.cons rfl (fun K hK => ?_) .nil)
      · go_simp
        go_wp2_with (go_at_call 76; refine (PA.out _ S68.rd).mono ?_; rintro e w5 ⟨rfl, s5⟩)
        have g69 : ((((w.alloc (.cells c.cells 31)).alloc (.cells (⟨0, ⟨#[]⟩, 0, false, none, 0, 0, 0⟩ : Nc).cells 31)).drew).alloc (.cells (⟨0, ⟨#[]⟩, 0, false, none, 0, 0, 0⟩ : Nc).cells 31)).grownBy (w5) (some b) := s5.gb
        have zg69 := g69.size
        (try simp at zg69)
        have hh70 := hold1_gb hh67 g69 hq4
        refine hK.out _ _ hh70 (fun _ => ?_)
        clear hK K
        have S71 := S68.next s5
        refine wpAnyH_take (i := 2) (v := ?_) rfl (by kernel_rfl) (by kernel_rfl) (by kernel_rfl) (fun _ _ _ h => h) (Or.inl ⟨by rfl, ?yk72⟩) hh70 ?rk72
        case yk72 => (intro w2 hSw; (try dsimp only at hSw); go_simp; try rfl)
        simp only [Act.put, List.setIfInBounds_toArray, List.set_cons_zero, List.set_cons_succ]
        refine wpAnyH_ready (rs := [4]) (by kernel_rfl) (by simp) ?_
        refine .cons rfl (fun K hK => ?_) .nil
        go_simp
        have g73 : (w5).grownBy ((w5).alloc (.cells c.cells 31)) (some b) := gb_of_below (by go_grown) b
        have zg73 := g73.size
        (try simp at zg73)
        have hh74 := hold1_gb hh70 g73 hq4
        refine hK.out _ _ hh74 (fun _ => ?_)
        clear hK K
        have S75 := S71.alloc (.cells c.cells 31)
        refine wpAnyH_ready (rs := [5]) (by kernel_rfl) (by simp) ?_
        refine .cons rfl (fun K hK => ?_) .nil
        go_simp
        go_wp2_with (go_at_call 59; refine (node_any _ _ _ _ _ _).mono ?_; rintro e w6 ⟨rfl, hb6⟩)
        have g76 : ((w5).alloc (.cells c.cells 31)).grownBy (w6) (some b) := gb_of_below hb6 b
        have zg76 := g76.size
        (try simp at zg76)
        have hh77 := hold1_gb hh74 g76 hq4
        refine hK.out _ _ hh77 (fun _ => ?_)
        clear hK K
        have S78 := S75.below hb6
        refine wpAnyH_ready (rs := [7]) (by kernel_rfl) (by simp) ?_
        refine .cons rfl (fun K hK => ?_) .nil
        have rm79 : roomAt (w6) (w.heap.size + 2) 6 = true := (room_gb (gb_trans (gb_trans g69 g73) g76) (by first | omega | (simp; done) | (simp; omega)) (by first | omega | (simp; done) | (simp; omega)) 6).trans (roomNd_new _ _ _ _ (by simp))
        have n8 : w.heap.size + 1 < w.heap.size + 2 := (by first | omega | (simp; done) | (simp; omega))
        have nb : w.heap.size + 1 < w5.heap.size := (by first | omega | (simp; done) | (simp; omega))
        have db : w5.heap.size ≠ w.heap.size + 2 := (by first | omega | (simp; done) | (simp; omega))
        have SY : St w (putRow (w6) (w.heap.size + 2) (⟨35, ⟨#[]⟩, 0, false, some ⟨w5.heap.size, 0, none⟩, 1, 1, (tk.p : Int)⟩ : Nc).cells) b g cap L (i + 1) (o + 1) := S78.old bl gl _ (by omega) _
        have m6 : roomAt (putRow (w6) (w.heap.size + 2) (⟨35, ⟨#[]⟩, 0, false, some ⟨w5.heap.size, 0, none⟩, 1, 1, (tk.p : Int)⟩ : Nc).cells) (w.heap.size + 1) 6 = true := (room_far _ _ _ _ _ (by omega)).trans ((room_gb (gb_trans (gb_trans (gb_trans g66 g69) g73) g76) (by first | omega | (simp; done) | (simp; omega)) (by omega) 6).trans ((roomAt_drew _ _ _).trans (roomNd_new _ _ _ _ (by simp))))
        have mb : (putRow (w6) (w.heap.size + 2) (⟨35, ⟨#[]⟩, 0, false, some ⟨w5.heap.size, 0, none⟩, 1, 1, (tk.p : Int)⟩ : Nc).cells).heap[w5.heap.size]? = some (.cells c.cells 31 (0, 0)) := (put_far _ _ _ _ db).trans (((g76).block (w5.heap.size) (by first | omega | (simp; done) | (simp; omega)) (by intro e; injection e with e; first | omega | (simp at e; omega))).trans (heap_new' _ _ (by simp)))
        have FIN : Hid (FldAt w (putRow (w6) (w.heap.size + 2) (⟨35, ⟨#[]⟩, 0, false, some ⟨w5.heap.size, 0, none⟩, 1, 1, (tk.p : Int)⟩ : Nc).cells) b g cap L (i + 1) (o + 1) 35 c tk (w.heap.size + 2)) := ⟨w5.heap.size, SY, rowNd_put _ _ _ rm79, room_keep rm79 _ rfl, m6, n8, nb, db, mb⟩
        have HY : Hid (rowAt (putRow (w6) (w.heap.size + 2) (⟨35, ⟨#[]⟩, 0, false, some ⟨w5.heap.size, 0, none⟩, 1, 1, (tk.p : Int)⟩ : Nc).cells) w.heap.size = some c.cells) := (row_far _ _ _ _ (by omega)).trans hh77
        clear SY m6 mb nb n8 db s5 g66 g69 g73 g76 S78
        go_simp
        refine hK.out _ _ HY.out (fun _ => ?_)
        clear hK K
        refine wpAnyH_done (by kernel_rfl) ?_ _
        go_wp2_with fail
        go_meet
        exact ⟨_, rfl, FIN.out⟩
      · go_simp
        have g80 : ((((w.alloc (.cells c.cells 31)).alloc (.cells (⟨0, ⟨#[]⟩, 0, false, none, 0, 0, 0⟩ : Nc).cells 31)).drew).alloc (.cells (⟨0, ⟨#[]⟩, 0, false, none, 0, 0, 0⟩ : Nc).cells 31)).grownBy (((((w.alloc (.cells c.cells 31)).alloc (.cells (⟨0, ⟨#[]⟩, 0, false, none, 0, 0, 0⟩ : Nc).cells 31)).drew).alloc (.cells (⟨0, ⟨#[]⟩, 0, false, none, 0, 0, 0⟩ : Nc).cells 31)).alloc (.cells c.cells 31)) (some b) := gb_of_below (by go_grown) b
        have zg80 := g80.size
        (try simp at zg80)
        have hh81 := hold1_gb hh67 g80 hq4
        refine hK.out _ _ hh81 (fun _ => ?_)
        clear hK K
        have S82 := S68.alloc (.cells c.cells 31)
        refine wpAnyH_ready (rs := [1]) (by kernel_rfl) (by simp) ?_
        refine .cons rfl (fun K hK => ?_) .nil
        go_simp
        go_wp2_with (go_at_call 76; refine (PA.out _ S82.rd).mono ?_; rintro e w5 ⟨rfl, s5⟩)
        have g83 : (((((w.alloc (.cells c.cells 31)).alloc (.cells (⟨0, ⟨#[]⟩, 0, false, none, 0, 0, 0⟩ : Nc).cells 31)).drew).alloc (.cells (⟨0, ⟨#[]⟩, 0, false, none, 0, 0, 0⟩ : Nc).cells 31)).alloc (.cells c.cells 31)).grownBy (w5) (some b) := s5.gb
        have zg83 := g83.size
        (try simp at zg83)
        have hh84 := hold1_gb hh81 g83 hq4
        refine hK.out _ _ hh84 (fun _ => ?_)
        clear hK K
        have S85 := S82.next s5
        refine wpAnyH_take (i := 2) (v := ?_) rfl (by kernel_rfl) (by kernel_rfl) (by kernel_rfl) (fun _ _ _ h => h) (Or.inl ⟨by rfl, ?yk86⟩) hh84 ?rk86
        case yk86 => (intro w2 hSw; (try dsimp only at hSw); go_simp; try rfl)
        simp only [Act.put, List.setIfInBounds_toArray, List.set_cons_zero, List.set_cons_succ]
        refine wpAnyH_ready (rs := [5]) (by kernel_rfl) (by simp) ?_
        refine .cons rfl (fun K hK => ?_) .nil
        go_simp
        go_wp2_with (go_at_call 59; refine (node_any _ _ _ _ _ _).mono ?_; rintro e w6 ⟨rfl, hb6⟩)
        have g87 : (w5).grownBy (w6) (some b) := gb_of_below hb6 b
        have zg87 := g87.size
        (try simp at zg87)
        have hh88 := hold1_gb hh84 g87 hq4
        refine hK.out _ _ hh88 (fun _ => ?_)
        clear hK K
        have S89 := S85.below hb6
        refine wpAnyH_ready (rs := [7]) (by kernel_rfl) (by simp) ?_
        refine .cons rfl (fun K hK => ?_) .nil
        have rm90 : roomAt (w6) (w.heap.size + 2) 6 = true := (room_gb (gb_trans (gb_trans g80 g83) g87) (by first | omega | (simp; done) | (simp; omega)) (by first | omega | (simp; done) | (simp; omega)) 6).trans (roomNd_new _ _ _ _ (by simp))
        have n8 : w.heap.size + 1 < w.heap.size + 2 := (by first | omega | (simp; done) | (simp; omega))
        have nb : w.heap.size + 1 < w.heap.size + 2 + 1 := (by first | omega | (simp; done) | (simp; omega))
        have db : w.heap.size + 2 + 1 ≠ w.heap.size + 2 := (by first | omega | (simp; done) | (simp; omega))
        have SY : St w (putRow (w6) (w.heap.size + 2) (⟨35, ⟨#[]⟩, 0, false, some ⟨w.heap.size + 2 + 1, 0, none⟩, 1, 1, (tk.p : Int)⟩ : Nc).cells) b g cap L (i + 1) (o + 1) := S89.old bl gl _ (by omega) _
        have m6 : roomAt (putRow (w6) (w.heap.size + 2) (⟨35, ⟨#[]⟩, 0, false, some ⟨w.heap.size + 2 + 1, 0, none⟩, 1, 1, (tk.p : Int)⟩ : Nc).cells) (w.heap.size + 1) 6 = true := (room_far _ _ _ _ _ (by omega)).trans ((room_gb (gb_trans (gb_trans (gb_trans g66 g80) g83) g87) (by first | omega | (simp; done) | (simp; omega)) (by omega) 6).trans ((roomAt_drew _ _ _).trans (roomNd_new _ _ _ _ (by simp))))
        have mb : (putRow (w6) (w.heap.size + 2) (⟨35, ⟨#[]⟩, 0, false, some ⟨w.heap.size + 2 + 1, 0, none⟩, 1, 1, (tk.p : Int)⟩ : Nc).cells).heap[w.heap.size + 2 + 1]? = some (.cells c.cells 31 (0, 0)) := (put_far _ _ _ _ db).trans ((((gb_trans g83 g87)).block (w.heap.size + 2 + 1) (by first | omega | (simp; done) | (simp; omega)) (by intro e; injection e with e; first | omega | (simp at e; omega))).trans (heap_new' _ _ (by simp)))
        have FIN : Hid (FldAt w (putRow (w6) (w.heap.size + 2) (⟨35, ⟨#[]⟩, 0, false, some ⟨w.heap.size + 2 + 1, 0, none⟩, 1, 1, (tk.p : Int)⟩ : Nc).cells) b g cap L (i + 1) (o + 1) 35 c tk (w.heap.size + 2)) := ⟨w.heap.size + 2 + 1, SY, rowNd_put _ _ _ rm90, room_keep rm90 _ rfl, m6, n8, nb, db, mb⟩
        have HY : Hid (rowAt (putRow (w6) (w.heap.size + 2) (⟨35, ⟨#[]⟩, 0, false, some ⟨w.heap.size + 2 + 1, 0, none⟩, 1, 1, (tk.p : Int)⟩ : Nc).cells) w.heap.size = some c.cells) := (row_far _ _ _ _ (by omega)).trans hh88
        clear SY m6 mb nb n8 db s5 g66 g80 g83 g87 S89
        go_simp
        refine hK.out _ _ HY.out (fun _ => ?_)
        clear hK K
        refine wpAnyH_done (by kernel_rfl) ?_ _
        go_wp2_with fail
        go_meet
        exact ⟨_, rfl, FIN.out⟩
  case rest =>
    obtain ⟨q, rfl, blk, SY, ry, my, m6, n8, nb, db, mb⟩ := hcut
    clear PA S0
    have wl : w.heap.size + 1 < wc.heap.size := Nat.lt_trans n8 (row_lt ry)
    have ql := row_lt ry
    have bll : blk < wc.heap.size := (Array.getElem?_eq_some_iff.1 mb).1
    have A0 : Hid (St w wc b g cap L (i + 1) (o + 1) ∧ wc.heap[blk]? = some (.cells c.cells 31 (0, 0))) := ⟨SY, mb⟩
    clear SY mb
    go_wp2_with (first
      | (go_at_call 39; refine (word_any _ b g cap L (i + 1) (o + 1) A0.out.1.rd).mono ?_; rintro e w3 ⟨rfl, hb3⟩; have hs3 := hb3.size; have r3 : rowAt w3 q = some _ := (rowAt_below hb3 _ ql).trans ry; have k3 : roomAt w3 q 6 = true := (roomAt_below hb3 _ _ ql).trans my; have m3 : roomAt w3 (w.heap.size + 1) 6 = true := (roomAt_below hb3 _ _ wl).trans m6; have A3 : Hid (St w w3 b g cap L (i + 1) (o + 1) ∧ w3.heap[blk]? = some (.cells c.cells 31 (0, 0))) := ⟨A0.out.1.below hb3, (hb3.block blk bll).trans A0.out.2⟩)
      | (go_at_call 30; refine (MY.out _ A3.out.1.rd).mono ?_; rintro e w4 ⟨rfl, s4⟩; have hs4 := s4.size; have r4 : rowAt w4 q = _ := (s4.row (by omega) (by omega)).trans r3; have m4 : roomAt w4 (w.heap.size + 1) 6 = true := (s4.room (by omega) (by omega) 6).trans m3; have A4 : Hid (St w w4 b g cap L (i + 1 + 1) (o + 1) ∧ w4.heap[blk]? = some (.cells c.cells 31 (0, 0))) := ⟨A3.out.1.next s4, (s4.gb.block blk (by omega) (fun e => by injection e with e; omega)).trans A3.out.2⟩)
      | (go_at_call 77; refine (end_any _ b g cap L (i + 1 + 1) o A4.out.1.rd).mono ?_; rintro e w5 ⟨rfl, s5⟩; have r5 : rowAt w5 q = _ := (s5.row (by omega) (by omega)).trans r4; have m5 : roomAt w5 (w.heap.size + 1) 6 = true := (s5.room (by omega) (by omega) 6).trans m4; have A5 : Hid (St w w5 b g cap L (i + 1 + 1) o ∧ w5.heap[blk]? = some (.cells c.cells 31 (0, 0))) := ⟨A4.out.1.next s5, (s5.gb.block blk (by omega) (fun e => by injection e with e; omega)).trans A4.out.2⟩))
    have S9 := A5.out.1
    exact ret_cell1 rfl rfl (loadNd_row (rowNd_put _ _ _ m5)) rfl ⟨_, i + 1 + 1, rfl, rfl, by omega, S9.old bl gl _ (by omega) _, one_made 35 [] tk.p (hP2 _ (by omega)) ((put_far _ _ _ _ (by omega)).trans A5.out.2) (HC.out.keep (fun x hx _ => hx) (by rw [size_put]; exact S9.gb.size) (fun x hx hl => (put_far _ _ _ _ (by omega)).trans (S9.gb.block x hl (fun e => by injection e with e; exact hP1 x hx e))))⟩
set_option maxHeartbeats 4000000 in
set_option maxRecDepth 20000 in
theorem call_some (w : World) (b g cap : Nat) (L : List Tok) (i o : Nat) (h : RdAt w b g cap L i o) (hk : (hd (L.drop i)).k ≠ 0) (c : Nc) (P : Nat → Prop) (hP1 : ∀ x, P x → x ≠ b) (hP2 : ∀ x, w.heap.size ≤ x → P x) (n1 : Nd) (hc : NdAt w P c n1) (ho : o < 24) (hw : wd (L.drop (i + 1)) ≠ [41]) (R0 : Rs Nd)
    (hRO : ∀ X, RdAt X b g cap L (i + 1) (o + 1) → Calls Tryd.prog 33 #[.pointer (some ⟨b, 0, none⟩), .string (bs [44]), .func (.func 16) #[.pointer (some ⟨b, 0, none⟩)] #[]] X (PostL X b g cap L (i + 1) (o + 1) R0)) :
    Calls Tryd.prog 87 #[.pointer (some ⟨b, 0, none⟩), .agg c.cells] w (PostP w b g cap L i o P (R0.bind fun y s => (mustR [41] s).bind fun _ u => .ok (.mk 35 [] 0 false (n1 :: y.kids) (hd (L.drop i)).p) u)) := by
  have PA : Hid (∀ X, RdAt X b g cap L i o → Calls Tryd.prog 76 #[.pointer (some ⟨b, 0, none⟩)] X _) := fun X hX => begin_yes X b g cap L i o hX ho hk
  have H : Hid (RdAt w b g cap L i o) := h
  have HC : Hid (NdAt w P c n1) := hc
  have bl := h.bl
  have gl := h.gl
  have hq4 : w.heap.size ≠ b := by omega
  have S0 := (((St.refl H.out).alloc (.cells c.cells 31)).alloc (.cells (⟨0, ⟨#[]⟩, 0, false, none, 0, 0, 0⟩ : Nc).cells 31)).drew
  clear h hk hc
  obtain ⟨tk, htk⟩ : ∃ tk, tk = hd (L.drop i) := ⟨_, rfl⟩
  rw [← htk] at PA ⊢
  clear htk
  have RO : Hid (∀ X, RdAt X b g cap L (i + 1) (o + 1) → Calls Tryd.prog 33 #[.pointer (some ⟨b, 0, none⟩), .string (bs [44]), .func (.func 16) #[.pointer (some ⟨b, 0, none⟩)] #[]] X (PostL X b g cap L (i + 1) (o + 1) R0)) := hRO
  clear hRO
  have kw := rk (wd (L.drop (i + 1)))
  have d1 : decide (wd (L.drop (i + 1)) = [41]) = false := by simpa using hw
  clear hw
  obtain ⟨R, hR⟩ : ∃ R, R = (R0.bind fun y s => (mustR [41] s).bind fun _ u => .ok (Nd.mk 35 [] 0 false (n1 :: y.kids) tk.p) u) := ⟨_, rfl⟩
  rw [← hR]
  have HR : Hid (R = (R0.bind fun y s => (mustR [41] s).bind fun _ u => .ok (Nd.mk 35 [] 0 false (n1 :: y.kids) tk.p) u)) := hR
  clear hR
  go_enter Tryd.func87, Tryd.ntmps87
  go_upto_region 1 with fail
  go_cut [5] (fun s8 Y => ∃ q, s8 = .pointer (some ⟨q, 0, none⟩) ∧ FldAt w Y b g cap L (i + 1) (o + 1) 35 c tk q)
  case first =>
    clear HR RO kw d1
    refine wp_region_held_drew (S := (fun X => rowAt X w.heap.size = some c.cells)) (by kernel_rfl) ((rowAt_drew _ _).trans ((rowAt_old _ _ _ (by simp)).trans (rowAt_at _ _ _ _ _ rfl))) (fun hHeld => ?_)
    refine wpAnyH_take (i := 0) (v := ?_) rfl (by kernel_rfl) (by kernel_rfl) (by kernel_rfl) (fun _ _ _ h => h) (Or.inl ⟨by rfl, ?yk1⟩) hHeld ?rk1
    case yk1 => (intro w2 hSw; (try dsimp only at hSw); go_simp; try rfl)
    simp only [Act.put, List.setIfInBounds_toArray, List.set_cons_zero, List.set_cons_succ]
    refine wpAnyH_take (i := 3) (v := ?_) rfl (by kernel_rfl) (by kernel_rfl) (by kernel_rfl) (fun _ _ _ h => h) (Or.inl ⟨by rfl, ?yk2⟩) hHeld ?rk2
    case yk2 => (intro w2 hSw; (try dsimp only at hSw); go_simp; try rfl)
    simp only [Act.put, List.setIfInBounds_toArray, List.set_cons_zero, List.set_cons_succ]
    refine wpAnyH_ready (rs := [1, 4, 6]) (by kernel_rfl) (by simp) ?_
    refine .cons rfl (fun K hK => ?_) (.cons rfl (fun K hK => ?_) (.cons rfl (fun K hK => ?_) .nil))
    · go_simp
      go_wp2_with (go_at_call 76; refine (PA.out _ S0.rd).mono ?_; rintro e w5 ⟨rfl, s5⟩)
      have g3 : (((w.alloc (.cells c.cells 31)).alloc (.cells (⟨0, ⟨#[]⟩, 0, false, none, 0, 0, 0⟩ : Nc).cells 31)).drew).grownBy (w5) (some b) := s5.gb
      have zg3 := g3.size
      (try simp at zg3)
      have hh4 := hold1_gb hHeld g3 hq4
      refine hK.out _ _ hh4 (fun _ => ?_)
      clear hK K
      have S5 := S0.next s5
      refine wpAnyH_take (i := 2) (v := ?_) rfl (by kernel_rfl) (by kernel_rfl) (by kernel_rfl) (fun _ _ _ h => h) (Or.inl ⟨by rfl, ?yk6⟩) hh4 ?rk6
      case yk6 => (intro w2 hSw; (try dsimp only at hSw); go_simp; try rfl)
      simp only [Act.put, List.setIfInBounds_toArray, List.set_cons_zero, List.set_cons_succ]
      refine wpAnyH_ready (rs := [4, 6]) (by kernel_rfl) (by simp) ?_
      refine .cons rfl (fun K hK => ?_) (.cons rfl (fun K hK => ?_) .nil)
      · go_simp
        have g7 : (w5).grownBy ((w5).alloc (.cells c.cells 31)) (some b) := gb_of_below (by go_grown) b
        have zg7 := g7.size
        (try simp at zg7)
        have hh8 := hold1_gb hh4 g7 hq4
        refine hK.out _ _ hh8 (fun _ => ?_)
        clear hK K
        have S9 := S5.alloc (.cells c.cells 31)
        refine wpAnyH_ready (rs := [5, 6]) (by kernel_rfl) (by simp) ?_
        refine .cons rfl (fun K hK => ?_) (.cons rfl (fun K hK => ?_) .nil)
        · go_simp
          go_wp2_with (go_at_call 59; refine (node_any _ _ _ _ _ _).mono ?_; rintro e w6 ⟨rfl, hb6⟩)
          have g10 : ((w5).alloc (.cells c.cells 31)).grownBy (w6) (some b) := gb_of_below hb6 b
          have zg10 := g10.size
          (try simp at zg10)
          have hh11 := hold1_gb hh8 g10 hq4
          refine hK.out _ _ hh11 (fun _ => ?_)
          clear hK K
          have S12 := S9.below hb6
          refine wpAnyH_ready (rs := [6]) (by kernel_rfl) (by simp) ?_
          refine .cons rfl (fun K hK => ?_) .nil
          go_simp
          have g13 : (w6).grownBy ((w6).alloc (.cells (⟨0, ⟨#[]⟩, 0, false, none, 0, 0, 0⟩ : Nc).cells 31)) (some b) := gb_of_below (by go_grown) b
          have zg13 := g13.size
          (try simp at zg13)
          have hh14 := hold1_gb hh11 g13 hq4
          refine hK.out _ _ hh14 (fun _ => ?_)
          clear hK K
          have S15 := S12.alloc (.cells (⟨0, ⟨#[]⟩, 0, false, none, 0, 0, 0⟩ : Nc).cells 31)
          refine wpAnyH_ready (rs := [7]) (by kernel_rfl) (by simp) ?_
          refine .cons rfl (fun K hK => ?_) .nil
          have rm16 : roomAt ((w6).alloc (.cells (⟨0, ⟨#[]⟩, 0, false, none, 0, 0, 0⟩ : Nc).cells 31)) (w6.heap.size) 6 = true := roomNd_new _ _ _ _ (by simp)
          have n8 : w.heap.size + 1 < w6.heap.size := (by first | omega | (simp; done) | (simp; omega))
          have nb : w.heap.size + 1 < w5.heap.size := (by first | omega | (simp; done) | (simp; omega))
          have db : w5.heap.size ≠ w6.heap.size := (by first | omega | (simp; done) | (simp; omega))
          have SY : St w (putRow ((w6).alloc (.cells (⟨0, ⟨#[]⟩, 0, false, none, 0, 0, 0⟩ : Nc).cells 31)) (w6.heap.size) (⟨35, ⟨#[]⟩, 0, false, some ⟨w5.heap.size, 0, none⟩, 1, 1, (tk.p : Int)⟩ : Nc).cells) b g cap L (i + 1) (o + 1) := S15.old bl gl _ (by omega) _
          have m6 : roomAt (putRow ((w6).alloc (.cells (⟨0, ⟨#[]⟩, 0, false, none, 0, 0, 0⟩ : Nc).cells 31)) (w6.heap.size) (⟨35, ⟨#[]⟩, 0, false, some ⟨w5.heap.size, 0, none⟩, 1, 1, (tk.p : Int)⟩ : Nc).cells) (w.heap.size + 1) 6 = true := (room_far _ _ _ _ _ (by omega)).trans ((room_gb (gb_trans (gb_trans (gb_trans g3 g7) g10) g13) (by first | omega | (simp; done) | (simp; omega)) (by omega) 6).trans ((roomAt_drew _ _ _).trans (roomNd_new _ _ _ _ (by simp))))
          have mb : (putRow ((w6).alloc (.cells (⟨0, ⟨#[]⟩, 0, false, none, 0, 0, 0⟩ : Nc).cells 31)) (w6.heap.size) (⟨35, ⟨#[]⟩, 0, false, some ⟨w5.heap.size, 0, none⟩, 1, 1, (tk.p : Int)⟩ : Nc).cells).heap[w5.heap.size]? = some (.cells c.cells 31 (0, 0)) := (put_far _ _ _ _ db).trans ((((gb_trans g10 g13)).block (w5.heap.size) (by first | omega | (simp; done) | (simp; omega)) (by intro e; injection e with e; first | omega | (simp at e; omega))).trans (heap_new' _ _ (by simp)))
          have FIN : Hid (FldAt w (putRow ((w6).alloc (.cells (⟨0, ⟨#[]⟩, 0, false, none, 0, 0, 0⟩ : Nc).cells 31)) (w6.heap.size) (⟨35, ⟨#[]⟩, 0, false, some ⟨w5.heap.size, 0, none⟩, 1, 1, (tk.p : Int)⟩ : Nc).cells) b g cap L (i + 1) (o + 1) 35 c tk (w6.heap.size)) := ⟨w5.heap.size, SY, rowNd_put _ _ _ rm16, room_keep rm16 _ rfl, m6, n8, nb, db, mb⟩
          have HY : Hid (rowAt (putRow ((w6).alloc (.cells (⟨0, ⟨#[]⟩, 0, false, none, 0, 0, 0⟩ : Nc).cells 31)) (w6.heap.size) (⟨35, ⟨#[]⟩, 0, false, some ⟨w5.heap.size, 0, none⟩, 1, 1, (tk.p : Int)⟩ : Nc).cells) w.heap.size = some c.cells) := (row_far _ _ _ _ (by omega)).trans hh14
          clear SY m6 mb nb n8 db s5 g3 g7 g10 g13 S15
          rw [putNd_new _ _ _ _ _ (by simp)] at FIN HY
          go_simp
          refine hK.out _ _ HY.out (fun _ => ?_)
          clear hK K
          refine wpAnyH_done (by kernel_rfl) ?_ _
          go_wp2_with fail
          go_meet
          exact ⟨_, rfl, FIN.out⟩
        · go_simp
          have g17 : ((w5).alloc (.cells c.cells 31)).grownBy (((w5).alloc (.cells c.cells 31)).alloc (.cells (⟨0, ⟨#[]⟩, 0, false, none, 0, 0, 0⟩ : Nc).cells 31)) (some b) := gb_of_below (by go_grown) b
          have zg17 := g17.size
          (try simp at zg17)
          have hh18 := hold1_gb hh8 g17 hq4
          refine hK.out _ _ hh18 (fun _ => ?_)
          clear hK K
          have S19 := S9.alloc (.cells (⟨0, ⟨#[]⟩, 0, false, none, 0, 0, 0⟩ : Nc).cells 31)
          refine wpAnyH_ready (rs := [5]) (by kernel_rfl) (by simp) ?_
          refine .cons rfl (fun K hK => ?_) .nil
          go_simp
          go_wp2_with (go_at_call 59; refine (node_any _ _ _ _ _ _).mono ?_; rintro e w6 ⟨rfl, hb6⟩)
          have g20 : (((w5).alloc (.cells c.cells 31)).alloc (.cells (⟨0, ⟨#[]⟩, 0, false, none, 0, 0, 0⟩ : Nc).cells 31)).grownBy (w6) (some b) := gb_of_below hb6 b
          have zg20 := g20.size
          (try simp at zg20)
          have hh21 := hold1_gb hh18 g20 hq4
          refine hK.out _ _ hh21 (fun _ => ?_)
          clear hK K
          have S22 := S19.below hb6
          refine wpAnyH_ready (rs := [7]) (by kernel_rfl) (by simp) ?_
          refine .cons rfl (fun K hK => ?_) .nil
          have rm23 : roomAt (w6) (w5.heap.size + 1) 6 = true := (room_gb g20 (by first | omega | (simp; done) | (simp; omega)) (by first | omega | (simp; done) | (simp; omega)) 6).trans (roomNd_new _ _ _ _ (by simp))
          have n8 : w.heap.size + 1 < w5.heap.size + 1 := (by first | omega | (simp; done) | (simp; omega))
          have nb : w.heap.size + 1 < w5.heap.size := (by first | omega | (simp; done) | (simp; omega))
          have db : w5.heap.size ≠ w5.heap.size + 1 := (by first | omega | (simp; done) | (simp; omega))
          have SY : St w (putRow (w6) (w5.heap.size + 1) (⟨35, ⟨#[]⟩, 0, false, some ⟨w5.heap.size, 0, none⟩, 1, 1, (tk.p : Int)⟩ : Nc).cells) b g cap L (i + 1) (o + 1) := S22.old bl gl _ (by omega) _
          have m6 : roomAt (putRow (w6) (w5.heap.size + 1) (⟨35, ⟨#[]⟩, 0, false, some ⟨w5.heap.size, 0, none⟩, 1, 1, (tk.p : Int)⟩ : Nc).cells) (w.heap.size + 1) 6 = true := (room_far _ _ _ _ _ (by omega)).trans ((room_gb (gb_trans (gb_trans (gb_trans g3 g7) g17) g20) (by first | omega | (simp; done) | (simp; omega)) (by omega) 6).trans ((roomAt_drew _ _ _).trans (roomNd_new _ _ _ _ (by simp))))
          have mb : (putRow (w6) (w5.heap.size + 1) (⟨35, ⟨#[]⟩, 0, false, some ⟨w5.heap.size, 0, none⟩, 1, 1, (tk.p : Int)⟩ : Nc).cells).heap[w5.heap.size]? = some (.cells c.cells 31 (0, 0)) := (put_far _ _ _ _ db).trans ((((gb_trans g17 g20)).block (w5.heap.size) (by first | omega | (simp; done) | (simp; omega)) (by intro e; injection e with e; first | omega | (simp at e; omega))).trans (heap_new' _ _ (by simp)))
          have FIN : Hid (FldAt w (putRow (w6) (w5.heap.size + 1) (⟨35, ⟨#[]⟩, 0, false, some ⟨w5.heap.size, 0, none⟩, 1, 1, (tk.p : Int)⟩ : Nc).cells) b g cap L (i + 1) (o + 1) 35 c tk (w5.heap.size + 1)) := ⟨w5.heap.size, SY, rowNd_put _ _ _ rm23, room_keep rm23 _ rfl, m6, n8, nb, db, mb⟩
          have HY : Hid (rowAt (putRow (w6) (w5.heap.size + 1) (⟨35, ⟨#[]⟩, 0, false, some ⟨w5.heap.size, 0, none⟩, 1, 1, (tk.p : Int)⟩ : Nc).cells) w.heap.size = some c.cells) := (row_far _ _ _ _ (by omega)).trans hh21
          clear SY m6 mb nb n8 db s5 g3 g7 g17 g20 S22
          go_simp
          refine hK.out _ _ HY.out (fun _ => ?_)
          clear hK K
          refine wpAnyH_done (by kernel_rfl) ?_ _
          go_wp2_with fail
          go_meet
          exact ⟨_, rfl, FIN.out⟩
      · go_simp
        have g24 : (w5).grownBy ((w5).alloc (.cells (⟨0, ⟨#[]⟩, 0, false, none, 0, 0, 0⟩ : Nc).cells 31)) (some b) := gb_of_below (by go_grown) b
        have zg24 := g24.size
        (try simp at zg24)
        have hh25 := hold1_gb hh4 g24 hq4
        refine hK.out _ _ hh25 (fun _ => ?_)
        clear hK K
        have S26 := S5.alloc (.cells (⟨0, ⟨#[]⟩, 0, false, none, 0, 0, 0⟩ : Nc).cells 31)
        refine wpAnyH_ready (rs := [4]) (by kernel_rfl) (by simp) ?_
        refine .cons rfl (fun K hK => ?_) .nil
        go_simp
        have g27 : ((w5).alloc (.cells (⟨0, ⟨#[]⟩, 0, false, none, 0, 0, 0⟩ : Nc).cells 31)).grownBy (((w5).alloc (.cells (⟨0, ⟨#[]⟩, 0, false, none, 0, 0, 0⟩ : Nc).cells 31)).alloc (.cells c.cells 31)) (some b) := gb_of_below (by go_grown) b
        have zg27 := g27.size
        (try simp at zg27)
        have hh28 := hold1_gb hh25 g27 hq4
        refine hK.out _ _ hh28 (fun _ => ?_)
        clear hK K
        have S29 := S26.alloc (.cells c.cells 31)
        refine wpAnyH_ready (rs := [5]) (by kernel_rfl) (by simp) ?_
        refine .cons rfl (fun K hK => ?_) .nil
        go_simp
        go_wp2_with (go_at_call 59; refine (node_any _ _ _ _ _ _).mono ?_; rintro e w6 ⟨rfl, hb6⟩)
        have g30 : (((w5).alloc (.cells (⟨0, ⟨#[]⟩, 0, false, none, 0, 0, 0⟩ : Nc).cells 31)).alloc (.cells c.cells 31)).grownBy (w6) (some b) := gb_of_below hb6 b
        have zg30 := g30.size
        (try simp at zg30)
        have hh31 := hold1_gb hh28 g30 hq4
        refine hK.out _ _ hh31 (fun _ => ?_)
        clear hK K
        have S32 := S29.below hb6
        refine wpAnyH_ready (rs := [7]) (by kernel_rfl) (by simp) ?_
        refine .cons rfl (fun K hK => ?_) .nil
        have rm33 : roomAt (w6) (w5.heap.size) 6 = true := (room_gb (gb_trans g27 g30) (by first | omega | (simp; done) | (simp; omega)) (by first | omega | (simp; done) | (simp; omega)) 6).trans (roomNd_new _ _ _ _ (by simp))
        have n8 : w.heap.size + 1 < w5.heap.size := (by first | omega | (simp; done) | (simp; omega))
        have nb : w.heap.size + 1 < w5.heap.size + 1 := (by first | omega | (simp; done) | (simp; omega))
        have db : w5.heap.size + 1 ≠ w5.heap.size := (by first | omega | (simp; done) | (simp; omega))
        have SY : St w (putRow (w6) (w5.heap.size) (⟨35, ⟨#[]⟩, 0, false, some ⟨w5.heap.size + 1, 0, none⟩, 1, 1, (tk.p : Int)⟩ : Nc).cells) b g cap L (i + 1) (o + 1) := S32.old bl gl _ (by omega) _
        have m6 : roomAt (putRow (w6) (w5.heap.size) (⟨35, ⟨#[]⟩, 0, false, some ⟨w5.heap.size + 1, 0, none⟩, 1, 1, (tk.p : Int)⟩ : Nc).cells) (w.heap.size + 1) 6 = true := (room_far _ _ _ _ _ (by omega)).trans ((room_gb (gb_trans (gb_trans (gb_trans g3 g24) g27) g30) (by first | omega | (simp; done) | (simp; omega)) (by omega) 6).trans ((roomAt_drew _ _ _).trans (roomNd_new _ _ _ _ (by simp))))
        have mb : (putRow (w6) (w5.heap.size) (⟨35, ⟨#[]⟩, 0, false, some ⟨w5.heap.size + 1, 0, none⟩, 1, 1, (tk.p : Int)⟩ : Nc).cells).heap[w5.heap.size + 1]? = some (.cells c.cells 31 (0, 0)) := (put_far _ _ _ _ db).trans (((g30).block (w5.heap.size + 1) (by first | omega | (simp; done) | (simp; omega)) (by intro e; injection e with e; first | omega | (simp at e; omega))).trans (heap_new' _ _ (by simp)))
        have FIN : Hid (FldAt w (putRow (w6) (w5.heap.size) (⟨35, ⟨#[]⟩, 0, false, some ⟨w5.heap.size + 1, 0, none⟩, 1, 1, (tk.p : Int)⟩ : Nc).cells) b g cap L (i + 1) (o + 1) 35 c tk (w5.heap.size)) := ⟨w5.heap.size + 1, SY, rowNd_put _ _ _ rm33, room_keep rm33 _ rfl, m6, n8, nb, db, mb⟩
        have HY : Hid (rowAt (putRow (w6) (w5.heap.size) (⟨35, ⟨#[]⟩, 0, false, some ⟨w5.heap.size + 1, 0, none⟩, 1, 1, (tk.p : Int)⟩ : Nc).cells) w.heap.size = some c.cells) := (row_far _ _ _ _ (by omega)).trans hh31
        clear SY m6 mb nb n8 db s5 g3 g24 g27 g30 S32
        go_simp
        refine hK.out _ _ HY.out (fun _ => ?_)
        clear hK K
        refine wpAnyH_done (by kernel_rfl) ?_ _
        go_wp2_with fail
        go_meet
        exact ⟨_, rfl, FIN.out⟩
    · go_simp
      have g34 : (((w.alloc (.cells c.cells 31)).alloc (.cells (⟨0, ⟨#[]⟩, 0, false, none, 0, 0, 0⟩ : Nc).cells 31)).drew).grownBy ((((w.alloc (.cells c.cells 31)).alloc (.cells (⟨0, ⟨#[]⟩, 0, false, none, 0, 0, 0⟩ : Nc).cells 31)).drew).alloc (.cells c.cells 31)) (some b) := gb_of_below (by go_grown) b
      have zg34 := g34.size
      (try simp at zg34)
      have hh35 := hold1_gb hHeld g34 hq4
      refine hK.out _ _ hh35 (fun _ => ?_)
      clear hK K
      have S36 := S0.alloc (.cells c.cells 31)
      refine wpAnyH_ready (rs := [1, 6]) (by kernel_rfl) (by simp) ?_
      refine .cons rfl (fun K hK => ?_) (.cons rfl (fun K hK => ?_) .nil)
      · go_simp
        go_wp2_with (go_at_call 76; refine (PA.out _ S36.rd).mono ?_; rintro e w5 ⟨rfl, s5⟩)
        have g37 : ((((w.alloc (.cells c.cells 31)).alloc (.cells (⟨0, ⟨#[]⟩, 0, false, none, 0, 0, 0⟩ : Nc).cells 31)).drew).alloc (.cells c.cells 31)).grownBy (w5) (some b) := s5.gb
        have zg37 := g37.size
        (try simp at zg37)
        have hh38 := hold1_gb hh35 g37 hq4
        refine hK.out _ _ hh38 (fun _ => ?_)
        clear hK K
        have S39 := S36.next s5
        refine wpAnyH_take (i := 2) (v := ?_) rfl (by kernel_rfl) (by kernel_rfl) (by kernel_rfl) (fun _ _ _ h => h) (Or.inl ⟨by rfl, ?yk40⟩) hh38 ?rk40
        case yk40 => (intro w2 hSw; (try dsimp only at hSw); go_simp; try rfl)
        simp only [Act.put, List.setIfInBounds_toArray, List.set_cons_zero, List.set_cons_succ]
        refine wpAnyH_ready (rs := [5, 6]) (by kernel_rfl) (by simp) ?_
        refine .cons rfl (fun K hK => ?_) (.cons rfl (fun K hK => ?_) .nil)
        · go_simp
          go_wp2_with (go_at_call 59; refine (node_any _ _ _ _ _ _).mono ?_; rintro e w6 ⟨rfl, hb6⟩)
          have g41 : (w5).grownBy (w6) (some b) := gb_of_below hb6 b
          have zg41 := g41.size
          (try simp at zg41)
          have hh42 := hold1_gb hh38 g41 hq4
          refine hK.out _ _ hh42 (fun _ => ?_)
          clear hK K
          have S43 := S39.below hb6
          refine wpAnyH_ready (rs := [6]) (by kernel_rfl) (by simp) ?_
          refine .cons rfl (fun K hK => ?_) .nil
          go_simp
          have g44 : (w6).grownBy ((w6).alloc (.cells (⟨0, ⟨#[]⟩, 0, false, none, 0, 0, 0⟩ : Nc).cells 31)) (some b) := gb_of_below (by go_grown) b
          have zg44 := g44.size
          (try simp at zg44)
          have hh45 := hold1_gb hh42 g44 hq4
          refine hK.out _ _ hh45 (fun _ => ?_)
          clear hK K
          have S46 := S43.alloc (.cells (⟨0, ⟨#[]⟩, 0, false, none, 0, 0, 0⟩ : Nc).cells 31)
          refine wpAnyH_ready (rs := [7]) (by kernel_rfl) (by simp) ?_
          refine .cons rfl (fun K hK => ?_) .nil
          have rm47 : roomAt ((w6).alloc (.cells (⟨0, ⟨#[]⟩, 0, false, none, 0, 0, 0⟩ : Nc).cells 31)) (w6.heap.size) 6 = true := roomNd_new _ _ _ _ (by simp)
          have n8 : w.heap.size + 1 < w6.heap.size := (by first | omega | (simp; done) | (simp; omega))
          have nb : w.heap.size + 1 < w.heap.size + 2 := (by first | omega | (simp; done) | (simp; omega))
          have db : w.heap.size + 2 ≠ w6.heap.size := (by first | omega | (simp; done) | (simp; omega))
          have SY : St w (putRow ((w6).alloc (.cells (⟨0, ⟨#[]⟩, 0, false, none, 0, 0, 0⟩ : Nc).cells 31)) (w6.heap.size) (⟨35, ⟨#[]⟩, 0, false, some ⟨w.heap.size + 2, 0, none⟩, 1, 1, (tk.p : Int)⟩ : Nc).cells) b g cap L (i + 1) (o + 1) := S46.old bl gl _ (by omega) _
          have m6 : roomAt (putRow ((w6).alloc (.cells (⟨0, ⟨#[]⟩, 0, false, none, 0, 0, 0⟩ : Nc).cells 31)) (w6.heap.size) (⟨35, ⟨#[]⟩, 0, false, some ⟨w.heap.size + 2, 0, none⟩, 1, 1, (tk.p : Int)⟩ : Nc).cells) (w.heap.size + 1) 6 = true := (room_far _ _ _ _ _ (by omega)).trans ((room_gb (gb_trans (gb_trans (gb_trans g34 g37) g41) g44) (by first | omega | (simp; done) | (simp; omega)) (by omega) 6).trans ((roomAt_drew _ _ _).trans (roomNd_new _ _ _ _ (by simp))))
          have mb : (putRow ((w6).alloc (.cells (⟨0, ⟨#[]⟩, 0, false, none, 0, 0, 0⟩ : Nc).cells 31)) (w6.heap.size) (⟨35, ⟨#[]⟩, 0, false, some ⟨w.heap.size + 2, 0, none⟩, 1, 1, (tk.p : Int)⟩ : Nc).cells).heap[w.heap.size + 2]? = some (.cells c.cells 31 (0, 0)) := (put_far _ _ _ _ db).trans ((((gb_trans (gb_trans g37 g41) g44)).block (w.heap.size + 2) (by first | omega | (simp; done) | (simp; omega)) (by intro e; injection e with e; first | omega | (simp at e; omega))).trans (heap_new' _ _ (by simp)))
          have FIN : Hid (FldAt w (putRow ((w6).alloc (.cells (⟨0, ⟨#[]⟩, 0, false, none, 0, 0, 0⟩ : Nc).cells 31)) (w6.heap.size) (⟨35, ⟨#[]⟩, 0, false, some ⟨w.heap.size + 2, 0, none⟩, 1, 1, (tk.p : Int)⟩ : Nc).cells) b g cap L (i + 1) (o + 1) 35 c tk (w6.heap.size)) := ⟨w.heap.size + 2, SY, rowNd_put _ _ _ rm47, room_keep rm47 _ rfl, m6, n8, nb, db, mb⟩
          have HY : Hid (rowAt (putRow ((w6).alloc (.cells (⟨0, ⟨#[]⟩, 0, false, none, 0, 0, 0⟩ : Nc).cells 31)) (w6.heap.size) (⟨35, ⟨#[]⟩, 0, false, some ⟨w.heap.size + 2, 0, none⟩, 1, 1, (tk.p : Int)⟩ : Nc).cells) w.heap.size = some c.cells) := (row_far _ _ _ _ (by omega)).trans hh45
          clear SY m6 mb nb n8 db s5 g34 g37 g41 g44 S46
          rw [putNd_new _ _ _ _ _ (by simp)] at FIN HY
          go_simp
          refine hK.out _ _ HY.out (fun _ => ?_)
          clear hK K
          refine wpAnyH_done (by kernel_rfl) ?_ _
          go_wp2_with fail
          go_meet
          exact ⟨_, rfl, FIN.out⟩
        · go_simp
          have g48 : (w5).grownBy ((w5).alloc (.cells (⟨0, ⟨#[]⟩, 0, false, none, 0, 0, 0⟩ : Nc).cells 31)) (some b) := gb_of_below (by go_grown) b
          have zg48 := g48.size
          (try simp at zg48)
          have hh49 := hold1_gb hh38 g48 hq4
          refine hK.out _ _ hh49 (fun _ => ?_)
          clear hK K
          have S50 := S39.alloc (.cells (⟨0, ⟨#[]⟩, 0, false, none, 0, 0, 0⟩ : Nc).cells 31)
          refine wpAnyH_ready (rs := [5]) (by kernel_rfl) (by simp) ?_
          refine .cons rfl (fun K hK => ?_) .nil
          go_simp
          go_wp2_with (go_at_call 59; refine (node_any _ _ _ _ _ _).mono ?_; rintro e w6 ⟨rfl, hb6⟩)
          have g51 : ((w5).alloc (.cells (⟨0, ⟨#[]⟩, 0, false, none, 0, 0, 0⟩ : Nc).cells 31)).grownBy (w6) (some b) := gb_of_below hb6 b
          have zg51 := g51.size
          (try simp at zg51)
          have hh52 := hold1_gb hh49 g51 hq4
          refine hK.out _ _ hh52 (fun _ => ?_)
          clear hK K
          have S53 := S50.below hb6
          refine wpAnyH_ready (rs := [7]) (by kernel_rfl) (by simp) ?_
          refine .cons rfl (fun K hK => ?_) .nil
          have rm54 : roomAt (w6) (w5.heap.size) 6 = true := (room_gb g51 (by first | omega | (simp; done) | (simp; omega)) (by first | omega | (simp; done) | (simp; omega)) 6).trans (roomNd_new _ _ _ _ (by simp))
          have n8 : w.heap.size + 1 < w5.heap.size := (by first | omega | (simp; done) | (simp; omega))
          have nb : w.heap.size + 1 < w.heap.size + 2 := (by first | omega | (simp; done) | (simp; omega))
          have db : w.heap.size + 2 ≠ w5.heap.size := (by first | omega | (simp; done) | (simp; omega))
          have SY : St w (putRow (w6) (w5.heap.size) (⟨35, ⟨#[]⟩, 0, false, some ⟨w.heap.size + 2, 0, none⟩, 1, 1, (tk.p : Int)⟩ : Nc).cells) b g cap L (i + 1) (o + 1) := S53.old bl gl _ (by omega) _
          have m6 : roomAt (putRow (w6) (w5.heap.size) (⟨35, ⟨#[]⟩, 0, false, some ⟨w.heap.size + 2, 0, none⟩, 1, 1, (tk.p : Int)⟩ : Nc).cells) (w.heap.size + 1) 6 = true := (room_far _ _ _ _ _ (by omega)).trans ((room_gb (gb_trans (gb_trans (gb_trans g34 g37) g48) g51) (by first | omega | (simp; done) | (simp; omega)) (by omega) 6).trans ((roomAt_drew _ _ _).trans (roomNd_new _ _ _ _ (by simp))))
          have mb : (putRow (w6) (w5.heap.size) (⟨35, ⟨#[]⟩, 0, false, some ⟨w.heap.size + 2, 0, none⟩, 1, 1, (tk.p : Int)⟩ : Nc).cells).heap[w.heap.size + 2]? = some (.cells c.cells 31 (0, 0)) := (put_far _ _ _ _ db).trans ((((gb_trans (gb_trans g37 g48) g51)).block (w.heap.size + 2) (by first | omega | (simp; done) | (simp; omega)) (by intro e; injection e with e; first | omega | (simp at e; omega))).trans (heap_new' _ _ (by simp)))
          have FIN : Hid (FldAt w (putRow (w6) (w5.heap.size) (⟨35, ⟨#[]⟩, 0, false, some ⟨w.heap.size + 2, 0, none⟩, 1, 1, (tk.p : Int)⟩ : Nc).cells) b g cap L (i + 1) (o + 1) 35 c tk (w5.heap.size)) := ⟨w.heap.size + 2, SY, rowNd_put _ _ _ rm54, room_keep rm54 _ rfl, m6, n8, nb, db, mb⟩
          have HY : Hid (rowAt (putRow (w6) (w5.heap.size) (⟨35, ⟨#[]⟩, 0, false, some ⟨w.heap.size + 2, 0, none⟩, 1, 1, (tk.p : Int)⟩ : Nc).cells) w.heap.size = some c.cells) := (row_far _ _ _ _ (by omega)).trans hh52
          clear SY m6 mb nb n8 db s5 g34 g37 g48 g51 S53
          go_simp
          refine hK.out _ _ HY.out (fun _ => ?_)
          clear hK K
          refine wpAnyH_done (by kernel_rfl) ?_ _
          go_wp2_with fail
          go_meet
          exact ⟨_, rfl, FIN.out⟩
      · go_simp
        have g55 : ((((w.alloc (.cells c.cells 31)).alloc (.cells (⟨0, ⟨#[]⟩, 0, false, none, 0, 0, 0⟩ : Nc).cells 31)).drew).alloc (.cells c.cells 31)).grownBy (((((w.alloc (.cells c.cells 31)).alloc (.cells (⟨0, ⟨#[]⟩, 0, false, none, 0, 0, 0⟩ : Nc).cells 31)).drew).alloc (.cells c.cells 31)).alloc (.cells (⟨0, ⟨#[]⟩, 0, false, none, 0, 0, 0⟩ : Nc).cells 31)) (some b) := gb_of_below (by go_grown) b
        have zg55 := g55.size
        (try simp at zg55)
        have hh56 := hold1_gb hh35 g55 hq4
        refine hK.out _ _ hh56 (fun _ => ?_)
        clear hK K
        have S57 := S36.alloc (.cells (⟨0, ⟨#[]⟩, 0, false, none, 0, 0, 0⟩ : Nc).cells 31)
        refine wpAnyH_ready (rs := [1]) (by kernel_rfl) (by simp) ?_
        refine .cons rfl (fun K hK => ?_) .nil
        go_simp
        go_wp2_with (go_at_call 76; refine (PA.out _ S57.rd).mono ?_; rintro e w5 ⟨rfl, s5⟩)
        have g58 : (((((w.alloc (.cells c.cells 31)).alloc (.cells (⟨0, ⟨#[]⟩, 0, false, none, 0, 0, 0⟩ : Nc).cells 31)).drew).alloc (.cells c.cells 31)).alloc (.cells (⟨0, ⟨#[]⟩, 0, false, none, 0, 0, 0⟩ : Nc).cells 31)).grownBy (w5) (some b) := s5.gb
        have zg58 := g58.size
        (try simp at zg58)
        have hh59 := hold1_gb hh56 g58 hq4
        refine hK.out _ _ hh59 (fun _ => ?_)
        clear hK K
        have S60 := S57.next s5
        refine wpAnyH_take (i := 2) (v := ?_) rfl (by kernel_rfl) (by kernel_rfl) (by kernel_rfl) (fun _ _ _ h => h) (Or.inl ⟨by rfl, ?yk61⟩) hh59 ?rk61
        case yk61 => (intro w2 hSw; (try dsimp only at hSw); go_simp; try rfl)
        simp only [Act.put, List.setIfInBounds_toArray, List.set_cons_zero, List.set_cons_succ]
        refine wpAnyH_ready (rs := [5]) (by kernel_rfl) (by simp) ?_
        refine .cons rfl (fun K hK => ?_) .nil
        go_simp
        go_wp2_with (go_at_call 59; refine (node_any _ _ _ _ _ _).mono ?_; rintro e w6 ⟨rfl, hb6⟩)
        have g62 : (w5).grownBy (w6) (some b) := gb_of_below hb6 b
        have zg62 := g62.size
        (try simp at zg62)
        have hh63 := hold1_gb hh59 g62 hq4
        refine hK.out _ _ hh63 (fun _ => ?_)
        clear hK K
        have S64 := S60.below hb6
        refine wpAnyH_ready (rs := [7]) (by kernel_rfl) (by simp) ?_
        refine .cons rfl (fun K hK => ?_) .nil
        have rm65 : roomAt (w6) (w.heap.size + 2 + 1) 6 = true := (room_gb (gb_trans g58 g62) (by first | omega | (simp; done) | (simp; omega)) (by first | omega | (simp; done) | (simp; omega)) 6).trans (roomNd_new _ _ _ _ (by simp))
        have n8 : w.heap.size + 1 < w.heap.size + 2 + 1 := (by first | omega | (simp; done) | (simp; omega))
        have nb : w.heap.size + 1 < w.heap.size + 2 := (by first | omega | (simp; done) | (simp; omega))
        have db : w.heap.size + 2 ≠ w.heap.size + 2 + 1 := (by first | omega | (simp; done) | (simp; omega))
        have SY : St w (putRow (w6) (w.heap.size + 2 + 1) (⟨35, ⟨#[]⟩, 0, false, some ⟨w.heap.size + 2, 0, none⟩, 1, 1, (tk.p : Int)⟩ : Nc).cells) b g cap L (i + 1) (o + 1) := S64.old bl gl _ (by omega) _
        have m6 : roomAt (putRow (w6) (w.heap.size + 2 + 1) (⟨35, ⟨#[]⟩, 0, false, some ⟨w.heap.size + 2, 0, none⟩, 1, 1, (tk.p : Int)⟩ : Nc).cells) (w.heap.size + 1) 6 = true := (room_far _ _ _ _ _ (by omega)).trans ((room_gb (gb_trans (gb_trans (gb_trans g34 g55) g58) g62) (by first | omega | (simp; done) | (simp; omega)) (by omega) 6).trans ((roomAt_drew _ _ _).trans (roomNd_new _ _ _ _ (by simp))))
        have mb : (putRow (w6) (w.heap.size + 2 + 1) (⟨35, ⟨#[]⟩, 0, false, some ⟨w.heap.size + 2, 0, none⟩, 1, 1, (tk.p : Int)⟩ : Nc).cells).heap[w.heap.size + 2]? = some (.cells c.cells 31 (0, 0)) := (put_far _ _ _ _ db).trans ((((gb_trans (gb_trans g55 g58) g62)).block (w.heap.size + 2) (by first | omega | (simp; done) | (simp; omega)) (by intro e; injection e with e; first | omega | (simp at e; omega))).trans (heap_new' _ _ (by simp)))
        have FIN : Hid (FldAt w (putRow (w6) (w.heap.size + 2 + 1) (⟨35, ⟨#[]⟩, 0, false, some ⟨w.heap.size + 2, 0, none⟩, 1, 1, (tk.p : Int)⟩ : Nc).cells) b g cap L (i + 1) (o + 1) 35 c tk (w.heap.size + 2 + 1)) := ⟨w.heap.size + 2, SY, rowNd_put _ _ _ rm65, room_keep rm65 _ rfl, m6, n8, nb, db, mb⟩
        have HY : Hid (rowAt (putRow (w6) (w.heap.size + 2 + 1) (⟨35, ⟨#[]⟩, 0, false, some ⟨w.heap.size + 2, 0, none⟩, 1, 1, (tk.p : Int)⟩ : Nc).cells) w.heap.size = some c.cells) := (row_far _ _ _ _ (by omega)).trans hh63
        clear SY m6 mb nb n8 db s5 g34 g55 g58 g62 S64
        go_simp
        refine hK.out _ _ HY.out (fun _ => ?_)
        clear hK K
        refine wpAnyH_done (by kernel_rfl) ?_ _
        go_wp2_with fail
        go_meet
        exact ⟨_, rfl, FIN.out⟩
    · go_simp
      have g66 : (((w.alloc (.cells c.cells 31)).alloc (.cells (⟨0, ⟨#[]⟩, 0, false, none, 0, 0, 0⟩ : Nc).cells 31)).drew).grownBy ((((w.alloc (.cells c.cells 31)).alloc (.cells (⟨0, ⟨#[]⟩, 0, false, none, 0, 0, 0⟩ : Nc).cells 31)).drew).alloc (.cells (⟨0, ⟨#[]⟩, 0, false, none, 0, 0, 0⟩ : Nc).cells 31)) (some b) := gb_of_below (by go_grown) b
      have zg66 := g66.size
      (try simp at zg66)
      have hh67 := hold1_gb hHeld g66 hq4
      refine hK.out _ _ hh67 (fun _ => ?_)
      clear hK K
      have S68 := S0.alloc (.cells (⟨0, ⟨#[]⟩, 0, false, none, 0, 0, 0⟩ : Nc).cells 31)
      refine wpAnyH_ready (rs := [1, 4]) (by kernel_rfl) (by simp) ?_
      refine .cons rfl (fun K hK => ?_) (.cons rfl (fun K hK => ?_) .nil)
      · go_simp
        go_wp2_with (go_at_call 76; refine (PA.out _ S68.rd).mono ?_; rintro e w5 ⟨rfl, s5⟩)
        have g69 : ((((w.alloc (.cells c.cells 31)).alloc (.cells (⟨0, ⟨#[]⟩, 0, false, none, 0, 0, 0⟩ : Nc).cells 31)).drew).alloc (.cells (⟨0, ⟨#[]⟩, 0, false, none, 0, 0, 0⟩ : Nc).cells 31)).grownBy (w5) (some b) := s5.gb
        have zg69 := g69.size
        (try simp at zg69)
        have hh70 := hold1_gb hh67 g69 hq4
        refine hK.out _ _ hh70 (fun _ => ?_)
        clear hK K
        have S71 := S68.next s5
        refine wpAnyH_take (i := 2) (v := ?_) rfl (by kernel_rfl) (by kernel_rfl) (by kernel_rfl) (fun _ _ _ h => h) (Or.inl ⟨by rfl, ?yk72⟩) hh70 ?rk72
        case yk72 => (intro w2 hSw; (try dsimp only at hSw); go_simp; try rfl)
        simp only [Act.put, List.setIfInBounds_toArray, List.set_cons_zero, List.set_cons_succ]
        refine wpAnyH_ready (rs := [4]) (by kernel_rfl) (by simp) ?_
        refine .cons rfl (fun K hK => ?_) .nil
        go_simp
        have g73 : (w5).grownBy ((w5).alloc (.cells c.cells 31)) (some b) := gb_of_below (by go_grown) b
        have zg73 := g73.size
        (try simp at zg73)
        have hh74 := hold1_gb hh70 g73 hq4
        refine hK.out _ _ hh74 (fun _ => ?_)
        clear hK K
        have S75 := S71.alloc (.cells c.cells 31)
        refine wpAnyH_ready (rs := [5]) (by kernel_rfl) (by simp) ?_
        refine .cons rfl (fun K hK => ?_) .nil
        go_simp
        go_wp2_with (go_at_call 59; refine (node_any _ _ _ _ _ _).mono ?_; rintro e w6 ⟨rfl, hb6⟩)
        have g76 : ((w5).alloc (.cells c.cells 31)).grownBy (w6) (some b) := gb_of_below hb6 b
        have zg76 := g76.size
        (try simp at zg76)
        have hh77 := hold1_gb hh74 g76 hq4
        refine hK.out _ _ hh77 (fun _ => ?_)
        clear hK K
        have S78 := S75.below hb6
        refine wpAnyH_ready (rs := [7]) (by kernel_rfl) (by simp) ?_
        refine .cons rfl (fun K hK => ?_) .nil
        have rm79 : roomAt (w6) (w.heap.size + 2) 6 = true := (room_gb (gb_trans (gb_trans g69 g73) g76) (by first | omega | (simp; done) | (simp; omega)) (by first | omega | (simp; done) | (simp; omega)) 6).trans (roomNd_new _ _ _ _ (by simp))
        have n8 : w.heap.size + 1 < w.heap.size + 2 := (by first | omega | (simp; done) | (simp; omega))
        have nb : w.heap.size + 1 < w5.heap.size := (by first | omega | (simp; done) | (simp; omega))
        have db : w5.heap.size ≠ w.heap.size + 2 := (by first | omega | (simp; done) | (simp; omega))
        have SY : St w (putRow (w6) (w.heap.size + 2) (⟨35, ⟨#[]⟩, 0, false, some ⟨w5.heap.size, 0, none⟩, 1, 1, (tk.p : Int)⟩ : Nc).cells) b g cap L (i + 1) (o + 1) := S78.old bl gl _ (by omega) _
        have m6 : roomAt (putRow (w6) (w.heap.size + 2) (⟨35, ⟨#[]⟩, 0, false, some ⟨w5.heap.size, 0, none⟩, 1, 1, (tk.p : Int)⟩ : Nc).cells) (w.heap.size + 1) 6 = true := (room_far _ _ _ _ _ (by omega)).trans ((room_gb (gb_trans (gb_trans (gb_trans g66 g69) g73) g76) (by first | omega | (simp; done) | (simp; omega)) (by omega) 6).trans ((roomAt_drew _ _ _).trans (roomNd_new _ _ _ _ (by simp))))
        have mb : (putRow (w6) (w.heap.size + 2) (⟨35, ⟨#[]⟩, 0, false, some ⟨w5.heap.size, 0, none⟩, 1, 1, (tk.p : Int)⟩ : Nc).cells).heap[w5.heap.size]? = some (.cells c.cells 31 (0, 0)) := (put_far _ _ _ _ db).trans (((g76).block (w5.heap.size) (by first | omega | (simp; done) | (simp; omega)) (by intro e; injection e with e; first | omega | (simp at e; omega))).trans (heap_new' _ _ (by simp)))
        have FIN : Hid (FldAt w (putRow (w6) (w.heap.size + 2) (⟨35, ⟨#[]⟩, 0, false, some ⟨w5.heap.size, 0, none⟩, 1, 1, (tk.p : Int)⟩ : Nc).cells) b g cap L (i + 1) (o + 1) 35 c tk (w.heap.size + 2)) := ⟨w5.heap.size, SY, rowNd_put _ _ _ rm79, room_keep rm79 _ rfl, m6, n8, nb, db, mb⟩
        have HY : Hid (rowAt (putRow (w6) (w.heap.size + 2) (⟨35, ⟨#[]⟩, 0, false, some ⟨w5.heap.size, 0, none⟩, 1, 1, (tk.p : Int)⟩ : Nc).cells) w.heap.size = some c.cells) := (row_far _ _ _ _ (by omega)).trans hh77
        clear SY m6 mb nb n8 db s5 g66 g69 g73 g76 S78
        go_simp
        refine hK.out _ _ HY.out (fun _ => ?_)
        clear hK K
        refine wpAnyH_done (by kernel_rfl) ?_ _
        go_wp2_with fail
        go_meet
        exact ⟨_, rfl, FIN.out⟩
      · go_simp
        have g80 : ((((w.alloc (.cells c.cells 31)).alloc (.cells (⟨0, ⟨#[]⟩, 0, false, none, 0, 0, 0⟩ : Nc).cells 31)).drew).alloc (.cells (⟨0, ⟨#[]⟩, 0, false, none, 0, 0, 0⟩ : Nc).cells 31)).grownBy (((((w.alloc (.cells c.cells 31)).alloc (.cells (⟨0, ⟨#[]⟩, 0, false, none, 0, 0, 0⟩ : Nc).cells 31)).drew).alloc (.cells (⟨0, ⟨#[]⟩, 0, false, none, 0, 0, 0⟩ : Nc).cells 31)).alloc (.cells c.cells 31)) (some b) := gb_of_below (by go_grown) b
        have zg80 := g80.size
        (try simp at zg80)
        have hh81 := hold1_gb hh67 g80 hq4
        refine hK.out _ _ hh81 (fun _ => ?_)
        clear hK K
        have S82 := S68.alloc (.cells c.cells 31)
        refine wpAnyH_ready (rs := [1]) (by kernel_rfl) (by simp) ?_
        refine .cons rfl (fun K hK => ?_) .nil
        go_simp
        go_wp2_with (go_at_call 76; refine (PA.out _ S82.rd).mono ?_; rintro e w5 ⟨rfl, s5⟩)
        have g83 : (((((w.alloc (.cells c.cells 31)).alloc (.cells (⟨0, ⟨#[]⟩, 0, false, none, 0, 0, 0⟩ : Nc).cells 31)).drew).alloc (.cells (⟨0, ⟨#[]⟩, 0, false, none, 0, 0, 0⟩ : Nc).cells 31)).alloc (.cells c.cells 31)).grownBy (w5) (some b) := s5.gb
        have zg83 := g83.size
        (try simp at zg83)
        have hh84 := hold1_gb hh81 g83 hq4
        refine hK.out _ _ hh84 (fun _ => ?_)
        clear hK K
        have S85 := S82.next s5
        refine wpAnyH_take (i := 2) (v := ?_) rfl (by kernel_rfl) (by kernel_rfl) (by kernel_rfl) (fun _ _ _ h => h) (Or.inl ⟨by rfl, ?yk86⟩) hh84 ?rk86
        case yk86 => (intro w2 hSw; (try dsimp only at hSw); go_simp; try rfl)
        simp only [Act.put, List.setIfInBounds_toArray, List.set_cons_zero, List.set_cons_succ]
        refine wpAnyH_ready (rs := [5]) (by kernel_rfl) (by simp) ?_
        refine .cons rfl (fun K hK => ?_) .nil
        go_simp
        go_wp2_with (go_at_call 59; refine (node_any _ _ _ _ _ _).mono ?_; rintro e w6 ⟨rfl, hb6⟩)
        have g87 : (w5).grownBy (w6) (some b) := gb_of_below hb6 b
        have zg87 := g87.size
        (try simp at zg87)
        have hh88 := hold1_gb hh84 g87 hq4
        refine hK.out _ _ hh88 (fun _ => ?_)
        clear hK K
        have S89 := S85.below hb6
        refine wpAnyH_ready (rs := [7]) (by kernel_rfl) (by simp) ?_
        refine .cons rfl (fun K hK => ?_) .nil
        have rm90 : roomAt (w6) (w.heap.size + 2) 6 = true := (room_gb (gb_trans (gb_trans g80 g83) g87) (by first | omega | (simp; done) | (simp; omega)) (by first | omega | (simp; done) | (simp; omega)) 6).trans (roomNd_new _ _ _ _ (by simp))
        have n8 : w.heap.size + 1 < w.heap.size + 2 := (by first | omega | (simp; done) | (simp; omega))
        have nb : w.heap.size + 1 < w.heap.size + 2 + 1 := (by first | omega | (simp; done) | (simp; omega))
        have db : w.heap.size + 2 + 1 ≠ w.heap.size + 2 := (by first | omega | (simp; done) | (simp; omega))
        have SY : St w (putRow (w6) (w.heap.size + 2) (⟨35, ⟨#[]⟩, 0, false, some ⟨w.heap.size + 2 + 1, 0, none⟩, 1, 1, (tk.p : Int)⟩ : Nc).cells) b g cap L (i + 1) (o + 1) := S89.old bl gl _ (by omega) _
        have m6 : roomAt (putRow (w6) (w.heap.size + 2) (⟨35, ⟨#[]⟩, 0, false, some ⟨w.heap.size + 2 + 1, 0, none⟩, 1, 1, (tk.p : Int)⟩ : Nc).cells) (w.heap.size + 1) 6 = true := (room_far _ _ _ _ _ (by omega)).trans ((room_gb (gb_trans (gb_trans (gb_trans g66 g80) g83) g87) (by first | omega | (simp; done) | (simp; omega)) (by omega) 6).trans ((roomAt_drew _ _ _).trans (roomNd_new _ _ _ _ (by simp))))
        have mb : (putRow (w6) (w.heap.size + 2) (⟨35, ⟨#[]⟩, 0, false, some ⟨w.heap.size + 2 + 1, 0, none⟩, 1, 1, (tk.p : Int)⟩ : Nc).cells).heap[w.heap.size + 2 + 1]? = some (.cells c.cells 31 (0, 0)) := (put_far _ _ _ _ db).trans ((((gb_trans g83 g87)).block (w.heap.size + 2 + 1) (by first | omega | (simp; done) | (simp; omega)) (by intro e; injection e with e; first | omega | (simp at e; omega))).trans (heap_new' _ _ (by simp)))
        have FIN : Hid (FldAt w (putRow (w6) (w.heap.size + 2) (⟨35, ⟨#[]⟩, 0, false, some ⟨w.heap.size + 2 + 1, 0, none⟩, 1, 1, (tk.p : Int)⟩ : Nc).cells) b g cap L (i + 1) (o + 1) 35 c tk (w.heap.size + 2)) := ⟨w.heap.size + 2 + 1, SY, rowNd_put _ _ _ rm90, room_keep rm90 _ rfl, m6, n8, nb, db, mb⟩
        have HY : Hid (rowAt (putRow (w6) (w.heap.size + 2) (⟨35, ⟨#[]⟩, 0, false, some ⟨w.heap.size + 2 + 1, 0, none⟩, 1, 1, (tk.p : Int)⟩ : Nc).cells) w.heap.size = some c.cells) := (row_far _ _ _ _ (by omega)).trans hh88
        clear SY m6 mb nb n8 db s5 g66 g80 g83 g87 S89
        go_simp
        refine hK.out _ _ HY.out (fun _ => ?_)
        clear hK K
        refine wpAnyH_done (by kernel_rfl) ?_ _
        go_wp2_with fail
        go_meet
        exact ⟨_, rfl, FIN.out⟩
  case rest =>
    obtain ⟨q, rfl, blk, SY, ry, my, m6, n8, nb, db, mb⟩ := hcut
    clear PA S0
    have wl : w.heap.size + 1 < wc.heap.size := Nat.lt_trans n8 (row_lt ry)
    have ql := row_lt ry
    have bll : blk < wc.heap.size := (Array.getElem?_eq_some_iff.1 mb).1
    have A0 : Hid (St w wc b g cap L (i + 1) (o + 1) ∧ wc.heap[blk]? = some (.cells c.cells 31 (0, 0))) := ⟨SY, mb⟩
    clear SY mb
    go_upto_region 3 with (first
      | (go_at_call 39; refine (word_any _ b g cap L (i + 1) (o + 1) A0.out.1.rd).mono ?_; rintro e w3 ⟨rfl, hb3⟩; have hs3 := hb3.size; have r3 : rowAt w3 q = some _ := (rowAt_below hb3 _ ql).trans ry; have k3 : roomAt w3 q 6 = true := (roomAt_below hb3 _ _ ql).trans my; have m3 : roomAt w3 (w.heap.size + 1) 6 = true := (roomAt_below hb3 _ _ wl).trans m6; have A3 : Hid (St w w3 b g cap L (i + 1) (o + 1) ∧ w3.heap[blk]? = some (.cells c.cells 31 (0, 0))) := ⟨A0.out.1.below hb3, (hb3.block blk bll).trans A0.out.2⟩))
    have c3 := rowAt_cell r3
    have hs3' := hs3
    cases R0 with
    | bad p er =>
      have HRb : Hid (R = .bad p er) := HR.out
      clear HR
      refine wp_region_held_drew (S := (fun _ => True)) (by kernel_rfl) trivial (fun hHeld => ?_)
      refine wpAnyH_take (i := 0) (v := ?_) rfl (by kernel_rfl) (by kernel_rfl) (by kernel_rfl) (fun _ _ _ h => h) (Or.inl ⟨by rfl, ?u0a⟩) hHeld ?v0a
      case u0a => (intro w2 hSw; go_simp; try rfl)
      simp only [Act.put, List.setIfInBounds_toArray, List.set_cons_zero, List.set_cons_succ]
      refine wpAnyH_take (i := 2) (v := ?_) rfl (by kernel_rfl) (by kernel_rfl) (by kernel_rfl) (fun _ _ _ h => h) (Or.inl ⟨by rfl, ?u2a⟩) hHeld ?v2a
      case u2a => (intro w2 hSw; go_simp; try rfl)
      simp only [Act.put, List.setIfInBounds_toArray, List.set_cons_zero, List.set_cons_succ]
      refine wpAnyH_take (i := 3) (v := ?_) rfl (by kernel_rfl) (by kernel_rfl) (by kernel_rfl) (fun _ _ _ h => h) (Or.inl ⟨by rfl, ?u3a⟩) hHeld ?v3a
      case u3a => (intro w2 hSw; go_simp; try rfl)
      simp only [Act.put, List.setIfInBounds_toArray, List.set_cons_zero, List.set_cons_succ]
      refine wpAnyH_take (i := 4) (v := ?_) rfl (by kernel_rfl) (by kernel_rfl) (by kernel_rfl) (fun _ _ _ h => h) (Or.inl ⟨by rfl, ?u4a⟩) hHeld ?v4a
      case u4a => (intro w2 hSw; go_simp; try rfl)
      simp only [Act.put, List.setIfInBounds_toArray, List.set_cons_zero, List.set_cons_succ]
      refine wpAnyH_ready (rs := [1, 5]) (by kernel_rfl) (by simp) ?_
      refine .cons rfl (fun K hK => ?_) (.cons rfl (fun K hK => ?_) .nil)
      · go_simp
        refine hK.out _ _ trivial (fun _ => ?_)
        clear hK K
        refine wpAnyH_ready (rs := [5]) (by kernel_rfl) (by simp) ?_
        refine .cons rfl (fun K hK => ?_) .nil
        go_simp
        go_wp2_with (go_at_call 33; refine (RO.out _ A3.out.1.drew.rd).mono ?_; rintro e w5 ⟨he, g5⟩; unfold gaveUp at he; subst he)
        rw [HRb.out]
        exact ⟨rfl, rfl, gb_trans A3.out.1.drew.gb g5⟩
      · go_simp
        go_wp2_with (go_at_call 33; refine (RO.out _ A3.out.1.drew.rd).mono ?_; rintro e w5 ⟨he, g5⟩; unfold gaveUp at he; subst he)
        rw [HRb.out]
        exact ⟨rfl, rfl, gb_trans A3.out.1.drew.gb g5⟩
    | ok y s =>
      have HRs : Hid (R = (mustR [41] s).bind fun _ u => .ok (Nd.mk 35 [] 0 false (n1 :: y.kids) tk.p) u) := HR.out
      clear HR
      refine wp_region_held_drew (S := (fun _ => True)) (by kernel_rfl) trivial (fun hHeld => ?_)
      refine wpAnyH_take (i := 0) (v := ?_) rfl (by kernel_rfl) (by kernel_rfl) (by kernel_rfl) (fun _ _ _ h => h) (Or.inl ⟨by rfl, ?u0b⟩) hHeld ?v0b
      case u0b => (intro w2 hSw; go_simp; try rfl)
      simp only [Act.put, List.setIfInBounds_toArray, List.set_cons_zero, List.set_cons_succ]
      refine wpAnyH_take (i := 2) (v := ?_) rfl (by kernel_rfl) (by kernel_rfl) (by kernel_rfl) (fun _ _ _ h => h) (Or.inl ⟨by rfl, ?u2b⟩) hHeld ?v2b
      case u2b => (intro w2 hSw; go_simp; try rfl)
      simp only [Act.put, List.setIfInBounds_toArray, List.set_cons_zero, List.set_cons_succ]
      refine wpAnyH_take (i := 3) (v := ?_) rfl (by kernel_rfl) (by kernel_rfl) (by kernel_rfl) (fun _ _ _ h => h) (Or.inl ⟨by rfl, ?u3b⟩) hHeld ?v3b
      case u3b => (intro w2 hSw; go_simp; try rfl)
      simp only [Act.put, List.setIfInBounds_toArray, List.set_cons_zero, List.set_cons_succ]
      refine wpAnyH_take (i := 4) (v := ?_) rfl (by kernel_rfl) (by kernel_rfl) (by kernel_rfl) (fun _ _ _ h => h) (Or.inl ⟨by rfl, ?u4b⟩) hHeld ?v4b
      case u4b => (intro w2 hSw; go_simp; try rfl)
      simp only [Act.put, List.setIfInBounds_toArray, List.set_cons_zero, List.set_cons_succ]
      refine wpAnyH_ready (rs := [1, 5]) (by kernel_rfl) (by simp) ?_
      refine .cons rfl (fun K hK => ?_) (.cons rfl (fun K hK => ?_) .nil)
      · go_simp
        refine hK.out _ _ trivial (fun _ => ?_)
        clear hK K
        refine wpAnyH_ready (rs := [5]) (by kernel_rfl) (by simp) ?_
        refine .cons rfl (fun K hK => ?_) .nil
        go_simp
        go_wp2_with (go_at_call 33; refine (RO.out _ A3.out.1.drew.rd).mono ?_; rintro e w5 ⟨g4, m4', i4, rfl, ht4, hi4, s4, kd4, hg4, hgn, cs, rw4, h0, hm⟩)
        refine hK.out _ _ trivial (fun _ => ?_)
        clear hK K
        have z5 := s4.size
        (try simp at z5)
        have r5 : rowAt w5 q = some (⟨35, ⟨#[]⟩, 0, false, some ⟨blk, 0, none⟩, 1, 1, (tk.p : Int)⟩ : Nc).cells := (s4.row (by simp; omega) (by omega)).trans ((rowAt_drew _ _).trans r3)
        have k5 : roomAt w5 q 6 = true := (s4.room (by simp; omega) (by omega) 6).trans ((roomAt_drew _ _ _).trans k3)
        have m5 : roomAt w5 (w.heap.size + 1) 6 = true := (s4.room (by simp; omega) (by omega) 6).trans ((roomAt_drew _ _ _).trans m3)
        have b5 : w5.heap[blk]? = some (.cells c.cells 31 (0, 0)) := (s4.gb.block blk (by simp; omega) (fun e => by injection e with e; omega)).trans A3.out.2
        have S5 : St w w5 b g cap L i4 (o + 1) := A3.out.1.drew.next s4
        have c5 := rowAt_cell r5
        have i4l := S5.rd.il
        have ill := S5.rd.ll
        obtain ⟨v6, w6, g6, cp6, hrun6, ap⟩ := apd_run (X := w5) (B := w.heap.size) (P := fun x => P x ∧ x ≠ q ∧ x ≠ w.heap.size + 1) (n1 := n1) b5 (by omega) S5.size (own_mono rw4.own (by simp; omega)) rw4.len h0 (by omega) ⟨hP2 _ (by omega), db, by omega⟩ (fun x hx => ⟨hP2 _ (by omega), by omega, by omega⟩) (HC.out.keep (fun x hx hl => ⟨⟨hx, by omega, by omega⟩, by omega⟩) S5.gb.size (fun x hx hl => S5.gb.block x hl (fun e => by injection e with e; exact hP1 x hx e))) (fun j h1 h2 => (rw4.nds j h1 h2).keep (fun x hx _ => by simp at hx; exact ⟨⟨hP2 _ (by omega), by omega, by omega⟩, by omega⟩) (Nat.le_refl _) (fun _ _ _ => rfl))
        have S6 : St w w6 b g cap L i4 (o + 1) := S5.grow bl gl (own_mono (own_one (B := w.heap.size) b5 (by omega)) (Nat.le_refl _)) (by simpa [Value.ownBlock] using ap.gb)
        have q6 : w6.heap[q]? = w5.heap[q]? := ap.gb.block q (by omega) (fun e => by injection e with e; omega)
        have r6 : rowAt w6 q = some (⟨35, ⟨#[]⟩, 0, false, some ⟨blk, 0, none⟩, 1, 1, (tk.p : Int)⟩ : Nc).cells := (by unfold rowAt; rw [q6]; exact r5)
        have k6 : roomAt w6 q 6 = true := (by unfold roomAt; rw [q6]; exact k5)
        have q7 : w6.heap[w.heap.size + 1]? = w5.heap[w.heap.size + 1]? := ap.gb.block _ (by omega) (fun e => by injection e with e; omega)
        have m6' : roomAt w6 (w.heap.size + 1) 6 = true := (by unfold roomAt; rw [q7]; exact m5)
        obtain rfl := ap.val
        rw [List.length_cons] at hrun6
        refine wpAnyH_ready (rs := [6]) (by kernel_rfl) (by simp) ?_
        refine .cons rfl (fun K hK => ?_) .nil
        have AP : Hid (KidsAt w6 (fun x => P x ∧ x ≠ q ∧ x ≠ w.heap.size + 1) (some ⟨g6, 0, none⟩) 0 (n1 :: y.kids)) := ap.kids
        have HS6 : Hid (St w w6 b g cap L i4 (o + 1) ∧ s = L.drop i4 ∧ i + 1 < i4) := ⟨S6, ht4, hi4⟩
        clear ap s4 kd4 rw4 S6 S5 ht4 hi4 b5
        go_simp
        refine hK.out _ _ trivial (fun _ => ?_)
        clear hK K
        refine wpAnyH_take (i := 7) (v := ?_) rfl (by kernel_rfl) (by kernel_rfl) (by kernel_rfl) (fun _ _ _ h => h) (Or.inl ⟨by rfl, ?u7c⟩) trivial ?v7c
        case u7c => (intro w2 hSw; go_simp; try rfl)
        simp only [Act.put, List.setIfInBounds_toArray, List.set_cons_zero, List.set_cons_succ]
        refine wpAnyH_ready (rs := [8]) (by kernel_rfl) (by simp) ?_
        refine .cons rfl (fun K hK => ?_) .nil
        have c6 := rowAt_cell r6
        have f6 : w6.frozen? ⟨q, 4, none⟩ = false := (by have := (room_there k6 4 (by omega)).2; rwa [Nat.zero_add] at this)
        have r7 : rowAt (w6.setCell ⟨q, 4, none⟩ (.slice (some ⟨g6, 0, none⟩) (y.kids.length + 1) cp6)) q = some (⟨35, ⟨#[]⟩, 0, false, some ⟨g6, 0, none⟩, y.kids.length + 1, cp6, (tk.p : Int)⟩ : Nc).cells := rowAt_set _ _ _ _ _ r6
        have m7 : roomAt (w6.setCell ⟨q, 4, none⟩ (.slice (some ⟨g6, 0, none⟩) (y.kids.length + 1) cp6)) (w.heap.size + 1) 6 = true := (roomAt_far _ _ _ _ _ (by show w.heap.size + 1 ≠ q; omega)).trans m6'
        have ql7 : q < (w6.setCell ⟨q, 4, none⟩ (.slice (some ⟨g6, 0, none⟩) (y.kids.length + 1) cp6)).heap.size := row_lt r7
        have S7 : Hid (St w (w6.setCell ⟨q, 4, none⟩ (.slice (some ⟨g6, 0, none⟩) (y.kids.length + 1) cp6)) b g cap L i4 (o + 1)) := HS6.out.1.far bl gl q 4 (by omega) _
        have K7 : Hid (KidsAt (w6.setCell ⟨q, 4, none⟩ (.slice (some ⟨g6, 0, none⟩) (y.kids.length + 1) cp6)) (fun x => P x ∧ x ≠ w.heap.size + 1) (some ⟨g6, 0, none⟩) 0 (n1 :: y.kids)) := AP.out.keep (fun x hx _ => ⟨hx.1, hx.2.2⟩) (by simp) (fun x hx hl => Below.heap_setCell _ _ _ _ (by show x ≠ q; exact hx.2.1))
        go_simp
        refine hK.out _ _ trivial (fun _ => ?_)
        clear hK K
        refine wpAnyH_done (by kernel_rfl) ?_ _
        clear r6 k6 m6' c6 f6 AP r5 k5 m5 c5 r3 k3 m3 c3 hrun6 q6 q7
        generalize hlen : y.kids.length + 1 = len at r7 m7 ql7 S7 K7 ⊢
        generalize hw7 : w6.setCell ⟨q, 4, none⟩ (.slice (some ⟨g6, 0, none⟩) len cp6) = w7 at r7 m7 ql7 S7 K7 ⊢
        have HLE : Hid (y.kids.length + 1 = len) := hlen
        clear hlen hw7
        have e8 := HS6.out.2.1
        have e9 := HS6.out.2.2
        by_cases hm1 : wd s = [41]
        · have MY : Hid (Calls Tryd.prog 30 #[.pointer (some ⟨b, 0, none⟩), .string (bs [41])] w7 _) := must_yes w7 b g cap L i4 (o + 1) S7.out.rd [41] (by decide) (by rw [← e8]; exact hm1)
          have HRk : Hid (R = .ok (Nd.mk 35 [] 0 false (n1 :: y.kids) tk.p) (L.drop (i4 + 1))) := by
            show R = _
            rw [HRs.out]; unfold mustR; rw [if_pos hm1, Rs.bind_ok, e8, List.tail_drop]
          clear hm1 e8 HRs
          go_wp2_with (first
            | (go_at_call 30; refine MY.out.mono ?_; rintro e w8 ⟨rfl, s8⟩; have hs8 := s8.size; have r8 : rowAt w8 q = _ := (s8.row ql7 (by omega)).trans r7; have m8 : roomAt w8 (w.heap.size + 1) 6 = true := (s8.room (by omega) (by omega) 6).trans m7; have A8 : Hid (St w w8 b g cap L (i4 + 1) (o + 1) ∧ KidsAt w8 (fun x => P x ∧ x ≠ w.heap.size + 1) (some ⟨g6, 0, none⟩) 0 (n1 :: y.kids)) := ⟨S7.out.next s8, K7.out.keep (fun x hx _ => hx) s8.size (fun x hx hl => s8.gb.block x hl (fun e => by injection e with e; exact hP1 x hx.1 e))⟩)
            | (go_at_call 77; refine (end_any _ b g cap L (i4 + 1) o A8.out.1.rd).mono ?_; rintro e w9 ⟨rfl, s9⟩; have r9 : rowAt w9 q = _ := (s9.row (by omega) (by omega)).trans r8; have m9 : roomAt w9 (w.heap.size + 1) 6 = true := (s9.room (by omega) (by omega) 6).trans m8; have A9 : Hid (St w w9 b g cap L (i4 + 1) o ∧ KidsAt w9 (fun x => P x ∧ x ≠ w.heap.size + 1) (some ⟨g6, 0, none⟩) 0 (n1 :: y.kids)) := ⟨A8.out.1.next s9, A8.out.2.keep (fun x hx _ => hx) s9.size (fun x hx hl => s9.gb.block x hl (fun e => by injection e with e; exact hP1 x hx.1 e))⟩))
          rw [HRk.out]
          refine ret_cell1 rfl rfl (loadNd_row (rowNd_put _ _ _ m9)) rfl ⟨_, i4 + 1, rfl, rfl, by omega, A9.out.1.old bl gl _ (by omega) _, ?_⟩
          have hl9 := HLE.out
          subst hl9
          exact NdAt.mk 35 [] 0 false (n1 :: y.kids) tk.p _ cp6 (A9.out.2.keep (fun x hx _ => hx.1) (by rw [size_put]; exact Nat.le_refl _) (fun x hx hl => put_far _ _ _ _ hx.2))
        · have MN : Hid (Calls Tryd.prog 30 #[.pointer (some ⟨b, 0, none⟩), .string (bs [41])] w7 _) := must_no w7 b g cap L i4 (o + 1) S7.out.rd [41] (by rw [← e8]; exact hm1)
          have HRk : Hid (R = .bad (hd (L.drop i4)).p 90) := by
            show R = _
            rw [HRs.out]; unfold mustR; rw [if_neg hm1, Rs.bind_bad, e8]
          clear hm1 e8 HRs
          generalize (hd (L.drop i4)).p = pp at MN HRk
          go_wp2_with (go_at_call 30; refine MN.out.mono ?_; rintro e w8 ⟨he, g8⟩; unfold gaveUp at he; subst he)
          rw [HRk.out]
          exact ⟨rfl, rfl, gb_trans S7.out.gb g8⟩
      · go_simp
        go_wp2_with (go_at_call 33; refine (RO.out _ A3.out.1.drew.rd).mono ?_; rintro e w5 ⟨g4, m4', i4, rfl, ht4, hi4, s4, kd4, hg4, hgn, cs, rw4, h0, hm⟩)
        refine hK.out _ _ trivial (fun _ => ?_)
        clear hK K
        have z5 := s4.size
        (try simp at z5)
        have r5 : rowAt w5 q = some (⟨35, ⟨#[]⟩, 0, false, some ⟨blk, 0, none⟩, 1, 1, (tk.p : Int)⟩ : Nc).cells := (s4.row (by simp; omega) (by omega)).trans ((rowAt_drew _ _).trans r3)
        have k5 : roomAt w5 q 6 = true := (s4.room (by simp; omega) (by omega) 6).trans ((roomAt_drew _ _ _).trans k3)
        have m5 : roomAt w5 (w.heap.size + 1) 6 = true := (s4.room (by simp; omega) (by omega) 6).trans ((roomAt_drew _ _ _).trans m3)
        have b5 : w5.heap[blk]? = some (.cells c.cells 31 (0, 0)) := (s4.gb.block blk (by simp; omega) (fun e => by injection e with e; omega)).trans A3.out.2
        have S5 : St w w5 b g cap L i4 (o + 1) := A3.out.1.drew.next s4
        have c5 := rowAt_cell r5
        have i4l := S5.rd.il
        have ill := S5.rd.ll
        obtain ⟨v6, w6, g6, cp6, hrun6, ap⟩ := apd_run (X := w5) (B := w.heap.size) (P := fun x => P x ∧ x ≠ q ∧ x ≠ w.heap.size + 1) (n1 := n1) b5 (by omega) S5.size (own_mono rw4.own (by simp; omega)) rw4.len h0 (by omega) ⟨hP2 _ (by omega), db, by omega⟩ (fun x hx => ⟨hP2 _ (by omega), by omega, by omega⟩) (HC.out.keep (fun x hx hl => ⟨⟨hx, by omega, by omega⟩, by omega⟩) S5.gb.size (fun x hx hl => S5.gb.block x hl (fun e => by injection e with e; exact hP1 x hx e))) (fun j h1 h2 => (rw4.nds j h1 h2).keep (fun x hx _ => by simp at hx; exact ⟨⟨hP2 _ (by omega), by omega, by omega⟩, by omega⟩) (Nat.le_refl _) (fun _ _ _ => rfl))
        have S6 : St w w6 b g cap L i4 (o + 1) := S5.grow bl gl (own_mono (own_one (B := w.heap.size) b5 (by omega)) (Nat.le_refl _)) (by simpa [Value.ownBlock] using ap.gb)
        have q6 : w6.heap[q]? = w5.heap[q]? := ap.gb.block q (by omega) (fun e => by injection e with e; omega)
        have r6 : rowAt w6 q = some (⟨35, ⟨#[]⟩, 0, false, some ⟨blk, 0, none⟩, 1, 1, (tk.p : Int)⟩ : Nc).cells := (by unfold rowAt; rw [q6]; exact r5)
        have k6 : roomAt w6 q 6 = true := (by unfold roomAt; rw [q6]; exact k5)
        have q7 : w6.heap[w.heap.size + 1]? = w5.heap[w.heap.size + 1]? := ap.gb.block _ (by omega) (fun e => by injection e with e; omega)
        have m6' : roomAt w6 (w.heap.size + 1) 6 = true := (by unfold roomAt; rw [q7]; exact m5)
        obtain rfl := ap.val
        rw [List.length_cons] at hrun6
        refine wpAnyH_ready (rs := [1]) (by kernel_rfl) (by simp) ?_
        refine .cons rfl (fun K hK => ?_) .nil
        go_simp
        refine hK.out _ _ trivial (fun _ => ?_)
        clear hK K
        refine wpAnyH_ready (rs := [6]) (by kernel_rfl) (by simp) ?_
        refine .cons rfl (fun K hK => ?_) .nil
        have AP : Hid (KidsAt w6 (fun x => P x ∧ x ≠ q ∧ x ≠ w.heap.size + 1) (some ⟨g6, 0, none⟩) 0 (n1 :: y.kids)) := ap.kids
        have HS6 : Hid (St w w6 b g cap L i4 (o + 1) ∧ s = L.drop i4 ∧ i + 1 < i4) := ⟨S6, ht4, hi4⟩
        clear ap s4 kd4 rw4 S6 S5 ht4 hi4 b5
        go_simp
        refine hK.out _ _ trivial (fun _ => ?_)
        clear hK K
        refine wpAnyH_take (i := 7) (v := ?_) rfl (by kernel_rfl) (by kernel_rfl) (by kernel_rfl) (fun _ _ _ h => h) (Or.inl ⟨by rfl, ?u7d⟩) trivial ?v7d
        case u7d => (intro w2 hSw; go_simp; try rfl)
        simp only [Act.put, List.setIfInBounds_toArray, List.set_cons_zero, List.set_cons_succ]
        refine wpAnyH_ready (rs := [8]) (by kernel_rfl) (by simp) ?_
        refine .cons rfl (fun K hK => ?_) .nil
        have c6 := rowAt_cell r6
        have f6 : w6.frozen? ⟨q, 4, none⟩ = false := (by have := (room_there k6 4 (by omega)).2; rwa [Nat.zero_add] at this)
        have r7 : rowAt (w6.setCell ⟨q, 4, none⟩ (.slice (some ⟨g6, 0, none⟩) (y.kids.length + 1) cp6)) q = some (⟨35, ⟨#[]⟩, 0, false, some ⟨g6, 0, none⟩, y.kids.length + 1, cp6, (tk.p : Int)⟩ : Nc).cells := rowAt_set _ _ _ _ _ r6
        have m7 : roomAt (w6.setCell ⟨q, 4, none⟩ (.slice (some ⟨g6, 0, none⟩) (y.kids.length + 1) cp6)) (w.heap.size + 1) 6 = true := (roomAt_far _ _ _ _ _ (by show w.heap.size + 1 ≠ q; omega)).trans m6'
        have ql7 : q < (w6.setCell ⟨q, 4, none⟩ (.slice (some ⟨g6, 0, none⟩) (y.kids.length + 1) cp6)).heap.size := row_lt r7
        have S7 : Hid (St w (w6.setCell ⟨q, 4, none⟩ (.slice (some ⟨g6, 0, none⟩) (y.kids.length + 1) cp6)) b g cap L i4 (o + 1)) := HS6.out.1.far bl gl q 4 (by omega) _
        have K7 : Hid (KidsAt (w6.setCell ⟨q, 4, none⟩ (.slice (some ⟨g6, 0, none⟩) (y.kids.length + 1) cp6)) (fun x => P x ∧ x ≠ w.heap.size + 1) (some ⟨g6, 0, none⟩) 0 (n1 :: y.kids)) := AP.out.keep (fun x hx _ => ⟨hx.1, hx.2.2⟩) (by simp) (fun x hx hl => Below.heap_setCell _ _ _ _ (by show x ≠ q; exact hx.2.1))
        go_simp
        refine hK.out _ _ trivial (fun _ => ?_)
        clear hK K
        refine wpAnyH_done (by kernel_rfl) ?_ _
        clear r6 k6 m6' c6 f6 AP r5 k5 m5 c5 r3 k3 m3 c3 hrun6 q6 q7
        generalize hlen : y.kids.length + 1 = len at r7 m7 ql7 S7 K7 ⊢
        generalize hw7 : w6.setCell ⟨q, 4, none⟩ (.slice (some ⟨g6, 0, none⟩) len cp6) = w7 at r7 m7 ql7 S7 K7 ⊢
        have HLE : Hid (y.kids.length + 1 = len) := hlen
        clear hlen hw7
        have e8 := HS6.out.2.1
        have e9 := HS6.out.2.2
        by_cases hm1 : wd s = [41]
        · have MY : Hid (Calls Tryd.prog 30 #[.pointer (some ⟨b, 0, none⟩), .string (bs [41])] w7 _) := must_yes w7 b g cap L i4 (o + 1) S7.out.rd [41] (by decide) (by rw [← e8]; exact hm1)
          have HRk : Hid (R = .ok (Nd.mk 35 [] 0 false (n1 :: y.kids) tk.p) (L.drop (i4 + 1))) := by
            show R = _
            rw [HRs.out]; unfold mustR; rw [if_pos hm1, Rs.bind_ok, e8, List.tail_drop]
          clear hm1 e8 HRs
          go_wp2_with (first
            | (go_at_call 30; refine MY.out.mono ?_; rintro e w8 ⟨rfl, s8⟩; have hs8 := s8.size; have r8 : rowAt w8 q = _ := (s8.row ql7 (by omega)).trans r7; have m8 : roomAt w8 (w.heap.size + 1) 6 = true := (s8.room (by omega) (by omega) 6).trans m7; have A8 : Hid (St w w8 b g cap L (i4 + 1) (o + 1) ∧ KidsAt w8 (fun x => P x ∧ x ≠ w.heap.size + 1) (some ⟨g6, 0, none⟩) 0 (n1 :: y.kids)) := ⟨S7.out.next s8, K7.out.keep (fun x hx _ => hx) s8.size (fun x hx hl => s8.gb.block x hl (fun e => by injection e with e; exact hP1 x hx.1 e))⟩)
            | (go_at_call 77; refine (end_any _ b g cap L (i4 + 1) o A8.out.1.rd).mono ?_; rintro e w9 ⟨rfl, s9⟩; have r9 : rowAt w9 q = _ := (s9.row (by omega) (by omega)).trans r8; have m9 : roomAt w9 (w.heap.size + 1) 6 = true := (s9.room (by omega) (by omega) 6).trans m8; have A9 : Hid (St w w9 b g cap L (i4 + 1) o ∧ KidsAt w9 (fun x => P x ∧ x ≠ w.heap.size + 1) (some ⟨g6, 0, none⟩) 0 (n1 :: y.kids)) := ⟨A8.out.1.next s9, A8.out.2.keep (fun x hx _ => hx) s9.size (fun x hx hl => s9.gb.block x hl (fun e => by injection e with e; exact hP1 x hx.1 e))⟩))
          rw [HRk.out]
          refine ret_cell1 rfl rfl (loadNd_row (rowNd_put _ _ _ m9)) rfl ⟨_, i4 + 1, rfl, rfl, by omega, A9.out.1.old bl gl _ (by omega) _, ?_⟩
          have hl9 := HLE.out
          subst hl9
          exact NdAt.mk 35 [] 0 false (n1 :: y.kids) tk.p _ cp6 (A9.out.2.keep (fun x hx _ => hx.1) (by rw [size_put]; exact Nat.le_refl _) (fun x hx hl => put_far _ _ _ _ hx.2))
        · have MN : Hid (Calls Tryd.prog 30 #[.pointer (some ⟨b, 0, none⟩), .string (bs [41])] w7 _) := must_no w7 b g cap L i4 (o + 1) S7.out.rd [41] (by rw [← e8]; exact hm1)
          have HRk : Hid (R = .bad (hd (L.drop i4)).p 90) := by
            show R = _
            rw [HRs.out]; unfold mustR; rw [if_neg hm1, Rs.bind_bad, e8]
          clear hm1 e8 HRs
          generalize (hd (L.drop i4)).p = pp at MN HRk
          go_wp2_with (go_at_call 30; refine MN.out.mono ?_; rintro e w8 ⟨he, g8⟩; unfold gaveUp at he; subst he)
          rw [HRk.out]
          exact ⟨rfl, rfl, gb_trans S7.out.gb g8⟩
end Go.Proofs.YtllhcjmabhempaaDoor
