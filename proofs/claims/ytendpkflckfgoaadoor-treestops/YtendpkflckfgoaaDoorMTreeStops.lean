/-
  Layer 9, plain: a source that can't go on with a token, cut behind it. Nothing of the program's run is in this text but the names of what it answers.
  Layer 9: the laws' head.
  Layer 9: the walk of TreeStops.
  From what the program's text lays into the tables of keywords and signs to how they lie; the way from a contract to a row; texts that came in.
  Proved: for every two texts the law TreeStops returns true, where the tables of keywords and signs hold what their initialisers lay: what cannot go on with a token cannot, whatever stands behind it. No other condition.
-/
import Derived.Test.YtendpkflckfgoaaDoorMWhm
import Derived.Test.YtendpkflckfgoaaDoorMPge
import Derived.Test.YtendpkflckfgoaaDoorTkn
import Derived.Test.YtendpkflckfgoaaDoorTie
import Derived.Test.YtendpkflckfgoaaDoorCards
import Derived.SliceStrings
import Derived.MakeChecks
import Derived.Lay
import Derived.LaidMore
import Derived.SevenTiedAt
import Derived.JoinedOf
import Derived.ChangeSame
import Derived.Handed
import Derived.SizedLaws
import Derived.ChangeOld
import Derived.Below
import Derived.Shelf.Vars
import Derived.ChangeMaps5
namespace Go.Proofs.YtendpkflckfgoaaDoor
set_option linter.unusedVariables false
set_option linter.unusedSimpArgs false

theorem good_ts (l : Bs) (h : (allP l).e = 0) : GoodT (allP l).ts := by
  obtain ⟨d, x, e1, e2, _⟩ := allP_shape l h
  have hl := allP_last l h
  refine ⟨by rw [e1]; simp, fun y r ⟨a, ha⟩ hk => ?_⟩
  have hq : a.length < (allP l).ts.length := by rw [← ha]; simp
  have hy : (allP l).ts[a.length] = y := by
    have h2 : (allP l).ts[a.length]? = some y := by rw [← ha]; simp
    rw [List.getElem?_eq_getElem hq] at h2
    exact Option.some.inj h2
  have := hl a.length hq (by rw [hy]; exact hk)
  rw [← ha] at this
  intro e
  rw [e] at this
  simp at this
theorem short (l : Bs) (h : (allP l).e = 0) : l.length ≤ 16384 := by
  by_cases hl : l.length ≤ 16384
  · exact hl
  · unfold allP at h; rw [if_pos (by omega)] at h; simp at h
theorem rise_lt (l : Bs) (h : (allP l).e = 0) (i : Nat) : ∀ (j : Nat) (hij : i < j) (hj : j < (allP l).ts.length), ((allP l).ts[i]'(by omega)).p < (allP l).ts[j].p := by
  have hs := short l h
  have G := ahead_good l.length 0 l (Nat.le_refl _) (by rw [← allP_goX l hs]; exact h)
  rw [← allP_goX l hs] at G
  intro j
  induction j with
  | zero => intro hij; omega
  | succ j ih =>
    intro hij hj
    have h1 := G.rise j hj
    by_cases e : i = j
    · subst e; exact h1
    · exact Nat.lt_trans (ih (by omega) (by omega)) h1
theorem place_le (l : Bs) (h : (allP l).e = 0) {q : Nat} (hq : q ∈ (allP l).ts.map (·.p)) : q ≤ l.length := by
  have hs := short l h
  have G := ahead_good l.length 0 l (Nat.le_refl _) (by rw [← allP_goX l hs]; exact h)
  rw [← allP_goX l hs] at G
  obtain ⟨x, hx, rfl⟩ := List.mem_map.1 hq
  obtain ⟨i, hi, rfl⟩ := List.mem_iff_getElem.1 hx
  obtain ⟨k, hk, hkl, _⟩ := G.upto i hi
  omega
/-- The place that is told is a token's. -/
theorem ans_place (l : Bs) (h : (allP l).e = 0) (hf : (ansM l).2.2 = 90) : (ansM l).2.1 ∈ (allP l).ts.map (·.p) := by
  have hg := good_ts l h
  have he := ok_module.esc _ hg
  rw [exec_module] at he
  unfold ansM at hf ⊢
  rw [if_neg (by rw [h]; simp)] at hf ⊢
  cases hm : moduleR (allP l).ts with
  | bad q e =>
    rw [hm] at he hf
    simp only at hf ⊢
    rcases he with he | he
    · exact he
    · rw [he.2] at hf; exact absurd hf (by decide)
  | ok n r =>
    rw [hm] at he hf
    simp only at hf ⊢
    split at hf
    · simp at hf
    · rename_i hk
      rw [if_neg hk]
      exact (he.2.map _).subset (hd_mem he.1)
theorem hd_app {C B : List Tok} (h : C ≠ []) : hd (C ++ B) = hd C := by
  cases C with
  | nil => exact absurd rfl h
  | cons x r => rfl
theorem stops_plain (l rest : Bs) (h : (allP l).e = 0) (i : Nat) (hi : i + 1 < (allP l).ts.length) (hat : ((allP l).ts[i]'(by omega)).p = (ansM l).2.1) (hf : (ansM l).2.2 = 90) (hlen : (l.take (allP l).ts[i + 1].p ++ 32 :: rest).length ≤ 16384) (ht : (allP (l.take (allP l).ts[i + 1].p ++ 32 :: rest)).e = 0) :
    (ansM (l.take (allP l).ts[i + 1].p ++ 32 :: rest)).2 = ((ansM l).2.1, 90) := by
  have hs := short l h
  obtain ⟨_, B', hB, hBn⟩ := cut_read l rest (by rw [← allP_goX l hs]; exact h) (i + 1) (by rw [← allP_goX l hs]; exact hi) (by simp only [← allP_goX l hs]; rw [← allP_goX _ hlen]; exact ht)
  simp only [← allP_goX l hs] at hB
  rw [← allP_goX _ hlen] at hB
  have g2 := good_ts _ ht
  generalize l.take (allP l).ts[i + 1].p ++ 32 :: rest = t at ht hB g2 hlen ⊢
  have g1 := good_ts l h
  have hr := fun j => rise_lt l h i j
  rw [hB] at g2
  have hA : (allP l).ts.take (i + 1) ≠ [] := by
    intro e
    have e2 := congrArg List.length e
    rw [List.length_take, List.length_nil] at e2
    omega
  have hts : (allP l).ts.take (i + 1) ++ (allP l).ts.drop (i + 1) = (allP l).ts := List.take_append_drop _ _
  have hnB : ((allP l).ts[i]'(by omega)).p ∉ ((allP l).ts.drop (i + 1)).map (·.p) := by
    intro hm
    obtain ⟨x, hx, hxp⟩ := List.mem_map.1 hm
    obtain ⟨j, hj, rfl⟩ := List.mem_iff_getElem.1 hx
    rw [List.length_drop] at hj
    rw [List.getElem_drop] at hxp
    have := hr (i + 1 + j) (by omega) (by omega)
    omega
  have hat' : (ansM l).2.1 = ((allP l).ts[i]'(by omega)).p := hat.symm
  have HL := module_loc (Pl := Eq) rfl ((allP l).ts.drop (i + 1)) B' (TksL.refl ((allP l).ts.take (i + 1))) hA (by rw [hts]; exact g1) g2
  rw [hts] at HL
  rw [hat'] 
  unfold ansM at hf hat' ⊢
  rw [if_neg (by rw [h]; simp)] at hf hat'
  rw [if_neg (by rw [ht]; simp), hB]
  rcases HL with ⟨n, n', C, C', h1, h2, _, h4, h5, _⟩ | ⟨q, q', e, h1, h2, h3, _⟩ | ⟨h1, _⟩
  · rw [h1] at hf hat'
    simp only at hf hat'
    rw [hd_app h5] at hf hat'
    split at hf
    · simp at hf
    · rename_i hk
      rw [if_neg hk] at hat'
      rw [h2]
      cases h4 with
      | nil => exact absurd rfl h5
      | @cons x y a b hxy _ =>
        obtain ⟨hp, ⟨hk2, _⟩ | ⟨ee, _⟩⟩ := hxy
        · have hk' : ¬ (hd (y :: b ++ B')).k = 0 := by
            show ¬ y.k = 0
            rw [← hk2]; exact hk
          show (if (hd (y :: b ++ B')).k = 0 then (n', 0, 0) else (zeroN, (hd (y :: b ++ B')).p, 90) : Nd × Nat × Int).2 = _
          rw [if_neg hk']
          show ((y.p, (90 : Int)) : Nat × Int) = _
          rw [← hat']
          show _ = ((x.p, (90 : Int)) : Nat × Int)
          rw [hp]
        · cases ee
  · rw [h1] at hf hat'
    simp only at hf hat'
    rw [h2, ← h3, hf, ← hat']
  · exfalso
    cases hm : moduleR (allP l).ts with
    | bad q e =>
      rw [hm] at h1 hf hat'
      simp only at hf hat'
      rcases h1 with h1 | h1
      · exact hnB (by rw [← hat']; exact h1)
      · rw [h1.2] at hf; exact absurd hf (by decide)
    | ok n r =>
      rw [hm] at h1 hf hat'
      simp only at hf hat'
      split at hf
      · simp at hf
      · rename_i hk
        rw [if_neg hk] at hat'
        exact hnB (by rw [← hat']; exact (h1.2.map _).subset (hd_mem h1.1))
/-- Where the token behind the last one at a place begins, of the first so many; -1: there is none. -/
def endP (ts : List Tok) (q : Nat) : Nat → Int
  | 0 => -1
  | j + 1 => if (ts.getD j ⟨0, [], 0, 0⟩).p = q then ((ts.getD (j + 1) ⟨0, [], 0, 0⟩).p : Int) else endP ts q j
theorem endP_or (ts : List Tok) (q : Nat) : ∀ j, endP ts q j = -1 ∨ ∃ i, i < j ∧ (ts.getD i ⟨0, [], 0, 0⟩).p = q ∧ endP ts q j = ((ts.getD (i + 1) ⟨0, [], 0, 0⟩).p : Int)
  | 0 => .inl rfl
  | j + 1 => by
    rw [endP]
    by_cases h : (ts.getD j ⟨0, [], 0, 0⟩).p = q
    · rw [if_pos h]; exact .inr ⟨j, by omega, h, rfl⟩
    · rw [if_neg h]
      rcases endP_or ts q j with e | ⟨i, h1, h2, h3⟩
      · exact .inl e
      · exact .inr ⟨i, by omega, h2, h3⟩
end Go.Proofs.YtendpkflckfgoaaDoor

namespace Go.Proofs.YtendpkflckfgoaaDoor
set_option linter.unusedVariables false
set_option linter.unusedSimpArgs false
open Go.ChangeShapes Go.WideShapes Go.ChangeAt Go.RowKit
attribute [local go_sem ↓] loadTk_seal storeTk_seal loadKeys_seal loadSigns_seal
attribute [local go_sem] loadTk_run storeTk_run rowAt_at rowAt_old rowAt_drew rowAt_drewN roomTk_new roomAt_old roomAt_drew roomAt_drewN putTk_new Tk.fold putRow_past rowTk_put size_put putRow_drew putRow_drewN alloc_drewN setCell_drewN Tk.at0 Tk.at1 Tk.at2 Tk.at3 Tk.size Tk.set0 Tk.set1 Tk.set2 Tk.set3 Tk.ne rowAt_set rowAt_far roomAt_far
attribute [local go_sem ↓] loadNd_seal storeNd_seal
attribute [local go_sem] loadNd_run storeNd_run roomNd_new putNd_new Nc.fold rowNd_put Nc.at0 Nc.at1 Nc.at2 Nc.at3 Nc.at4 Nc.at5 Nc.size Nc.set0 Nc.set1 Nc.set2 Nc.set3 Nc.set4 Nc.set5 Nc.ne

def shT : Bs := [49, 32, 43, 32, 120]
def shM : Nd := .mk 37 [43] 0 false [.mk 24 [] 1 false [] 0, .mk 31 [120] 0 false [] 4] 2
theorem shT_ans : ansP .expr shT = (shM, 0, 0) := by kernel_rfl
set_option maxHeartbeats 4000000 in
set_option maxRecDepth 20000 in
theorem shownT (w : World) (V : Vars w) : Calls Tryd.prog 7 #[] w fun e w' => e = .returned (.bool true) ∧ Below w.heap.size w w' := by
  have EX : Hid (Calls Tryd.prog 8 #[.string (bs shT)] w (PostA w (shM, 0, 0))) := by
    have := expr_any shT w V
    rwa [shT_ans] at this
  clear V
  have xb : ((bs [43]).toList == [43]) = true := by kernel_rfl
  have xc : (bs [43]).toList = [43] := by kernel_rfl
  go_enter Tryd.func7, Tryd.ntmps7
  go_wp2_with (go_at_call 8; refine EX.out.mono ?_; rintro e w1 ⟨c, rfl, nd, hb⟩; have hs := hb.size; have hc : ∃ a m, c = ⟨37, bs [43], 0, false, a, 2, m, 2⟩ := (by cases nd; exact ⟨_, _, rfl⟩); obtain ⟨a, m, rfl⟩ := hc)
  go_ret
  exact ⟨rfl, by go_grown⟩
end Go.Proofs.YtendpkflckfgoaaDoor

namespace Go.Proofs.YtendpkflckfgoaaDoor
set_option linter.unusedVariables false
set_option linter.unusedSimpArgs false
open Go.ChangeShapes Go.WideShapes Go.ChangeAt Go.RowKit
attribute [local go_sem ↓] loadTk_seal storeTk_seal loadKeys_seal loadSigns_seal
attribute [local go_sem] loadTk_run storeTk_run rowAt_at rowAt_old rowAt_drew rowAt_drewN roomTk_new roomAt_old roomAt_drew roomAt_drewN putTk_new Tk.fold putRow_past rowTk_put size_put putRow_drew putRow_drewN alloc_drewN setCell_drewN Tk.at0 Tk.at1 Tk.at2 Tk.at3 Tk.size Tk.set0 Tk.set1 Tk.set2 Tk.set3 Tk.ne rowAt_set rowAt_far roomAt_far
attribute [local go_sem ↓] loadNd_seal storeNd_seal
attribute [local go_sem] loadNd_run storeNd_run roomNd_new putNd_new Nc.fold rowNd_put Nc.at0 Nc.at1 Nc.at2 Nc.at3 Nc.at4 Nc.at5 Nc.size Nc.set0 Nc.set1 Nc.set2 Nc.set3 Nc.set4 Nc.set5 Nc.ne

theorem slice_to (l : Bs) (q : Nat) (h : q ≤ l.length) : (bs l).extract 0 q = bs (l.take q) := bs_take l q
theorem cat3 (a r : Bs) : (bs a ++ ⟨#[32]⟩) ++ bs r = bs (a ++ 32 :: r) := by
  rw [show (⟨#[32]⟩ : ByteArray) = bs [32] from rfl, bs_app, bs_app, List.append_assoc]; rfl
set_option maxHeartbeats 8000000 in
set_option maxRecDepth 20000 in
theorem stops_fails (l r : Bs) (w : World) (V : Vars w) (he : (allP l).e ≠ 0 ∨ (ansM l).2.2 ≠ 90) : Calls Tryd.prog 5 #[.string (bs l), .string (bs r)] w fun e w' => e = .returned (.bool true) ∧ Below w.heap.size w w' := by
  have SH := shownT w V
  have AL : Hid (∀ X, Below w.heap.size w X → Calls Tryd.prog 11 #[.string (bs l)] X _) := fun X hX => all_any l X (V.below hX V.big2)
  have MO : Hid (∀ X, Below w.heap.size w X → Calls Tryd.prog 9 #[.string (bs l)] X (PostA X (ansM l))) := fun X hX => modules_any l X (V.below hX V.big2)
  have n0 : ((allP l).e != 0) = true ∨ ((allP l).e != 0) = false ∧ ((ansM l).2.2 != 90) = true := by
    by_cases h : (allP l).e = 0
    · refine .inr ⟨by rw [h]; rfl, ?_⟩
      rcases he with he | he
      · exact absurd h he
      · simpa using he
    · exact .inl (by simpa using h)
  clear V he
  generalize ansM l = M at MO n0
  generalize allP l = A at AL n0
  rcases n0 with n0 | ⟨n0, n1⟩
  · go_enter Tryd.func5, Tryd.ntmps5
    go_wp2_with (first
      | (go_at_call 9; refine (MO.out _ (hb0.trans (hb1.mono hs0))).mono ?_; rintro e' w2 ⟨c2, rfl, nd2, hb2⟩; have hs2 := hb2.size)
      | (go_at_call 11; refine (AL.out _ hb0).mono ?_; rintro e' w1 ⟨v, rfl, ho, hb1⟩; have hs1 := hb1.size)
      | (go_at_call 7; refine SH.mono ?_; rintro e' w0 ⟨rfl, hb0⟩; have hs0 := hb0.size))
    go_ret
    exact ⟨rfl, (hb0.trans (hb1.mono hs0)).trans ((hb2.trans ((Below.refl _ _).alloc hs2 _)).mono (by omega))⟩
  · go_enter Tryd.func5, Tryd.ntmps5
    go_wp2_with (first
      | (go_at_call 9; refine (MO.out _ (hb0.trans (hb1.mono hs0))).mono ?_; rintro e' w2 ⟨c2, rfl, nd2, hb2⟩; have hs2 := hb2.size)
      | (go_at_call 11; refine (AL.out _ hb0).mono ?_; rintro e' w1 ⟨v, rfl, ho, hb1⟩; have hs1 := hb1.size)
      | (go_at_call 7; refine SH.mono ?_; rintro e' w0 ⟨rfl, hb0⟩; have hs0 := hb0.size))
    go_ret
    exact ⟨rfl, (hb0.trans (hb1.mono hs0)).trans ((hb2.trans ((Below.refl _ _).alloc hs2 _)).mono (by omega))⟩
set_option maxHeartbeats 8000000 in
set_option maxRecDepth 20000 in
theorem stops_goes (l r : Bs) (hrl : r.length ≤ 4611686018427387904) (w : World) (V : Vars w) (he : (allP l).e = 0) (hf : (ansM l).2.2 = 90) : Calls Tryd.prog 5 #[.string (bs l), .string (bs r)] w fun e w' => e = .returned (.bool true) ∧ Below w.heap.size w w' := by
  have SH := shownT w V
  have AL : Hid (∀ X, Below w.heap.size w X → Calls Tryd.prog 11 #[.string (bs l)] X _) := fun X hX => all_any l X (V.below hX V.big2)
  have MO : Hid (∀ X, Below w.heap.size w X → Calls Tryd.prog 9 #[.string (bs l)] X (PostA X (ansM l))) := fun X hX => modules_any l X (V.below hX V.big2)
  have AT : Hid (∀ t X, Below w.heap.size w X → Calls Tryd.prog 11 #[.string (bs t)] X _) := fun t X hX => all_any t X (V.below hX V.big2)
  have MT : Hid (∀ t X, Below w.heap.size w X → Calls Tryd.prog 9 #[.string (bs t)] X (PostA X (ansM t))) := fun t X hX => modules_any t X (V.below hX V.big2)
  have hpl := place_le l he (ans_place l he hf)
  have hsl := short l he
  have hle : ∀ i, ((allP l).ts.getD i ⟨0, [], 0, 0⟩).p ≤ l.length := fun i => by
    by_cases h : i < (allP l).ts.length
    · rw [List.getD_eq_getElem?_getD, List.getElem?_eq_getElem h]
      exact place_le l he (List.mem_map.2 ⟨_, List.getElem_mem h, rfl⟩)
    · rw [List.getD_eq_getElem?_getD, List.getElem?_eq_none (by omega)]
      exact Nat.zero_le _
  obtain ⟨d, xx, e1, e2, e3, e4⟩ := allP_shape l he
  have hne : (allP l).ts ≠ [] := by rw [e1]; simp
  have HP : Hid (∀ i, i + 1 < (allP l).ts.length → ((allP l).ts.getD i ⟨0, [], 0, 0⟩).p = (ansM l).2.1 → ∀ t, t = l.take ((allP l).ts.getD (i + 1) ⟨0, [], 0, 0⟩).p ++ 32 :: r → t.length ≤ 16384 → (allP t).e = 0 → (ansM t).2 = ((ansM l).2.1, 90)) := fun i hi hat t ht hl h => by
    have x1 : (allP l).ts.getD i ⟨0, [], 0, 0⟩ = (allP l).ts[i]'(by omega) := by rw [List.getD_eq_getElem?_getD, List.getElem?_eq_getElem (by omega)]; rfl
    have x2 : (allP l).ts.getD (i + 1) ⟨0, [], 0, 0⟩ = (allP l).ts[i + 1] := by rw [List.getD_eq_getElem?_getD, List.getElem?_eq_getElem hi]; rfl
    rw [x1] at hat
    rw [x2] at ht
    subst ht; exact stops_plain l r he i hi hat hf hl h
  have HF : Hid (∀ t, (allP t).e ≠ 0 → (ansM t).2.2 = (allP t).e) := fun t h => by unfold ansM; rw [if_pos h]
  have n0 : ((allP l).e != 0) = false := by rw [he]; rfl
  have n1 : ((ansM l).2.2 != 90) = false := by rw [hf]; rfl
  clear V he e1 e2 e4
  generalize hM : ansM l = M at *
  obtain ⟨n, q, f⟩ := M
  simp only at hf hpl n1 HP MO
  subst hf
  clear hM
  generalize allP l = A at *
  have hq0 : decide ((q : Int) ≤ (l.length : Int)) = true := decide_eq_true (by omega)
  have hq1 : decide (0 ≤ (q : Int)) = true := decide_eq_true (by omega)
  have hz := bs_size l
  have hzr := bs_size r
  have hlp : 0 < A.ts.length := List.length_pos_iff.2 hne
  go_enter Tryd.func5, Tryd.ntmps5
  go_wp2_with (first
    | (go_at_call 9; refine (MO.out _ (hb0.trans (hb1.mono hs0))).mono ?_; rintro e' w2 ⟨c2, rfl, nd2, hb2⟩; have hs2 := hb2.size; have BW : Below w.heap.size w (w2.alloc (.cells c2.cells 25)) := (hb0.trans (hb1.mono hs0)).trans ((hb2.trans ((Below.refl _ _).alloc hs2 _)).mono (by omega)); have TW : Hid (∀ i (hi : i < A.ts.length), ∀ j, j < 4 → (w2.alloc (.cells c2.cells 25)).cell? ⟨g, i * 4 + j, none⟩ = A.ts[i].tk.cells[j]?) := (fun i hi j hj => (World.cell?_of_block (a := ⟨g, i * 4 + j, none⟩) ((((Below.refl _ _).alloc (Nat.le_refl _) _).block g (by omega)).trans (hb2.block g hg2))).trans (htok i hi j hj)))
    | (go_at_call 11; refine (AL.out _ hb0).mono ?_; rintro e' w1 ⟨v, rfl, ho, hb1⟩; have hs1 := hb1.size; obtain ⟨g, cp, rfl, hg1, hg2, htok⟩ := own_at3 ho hne; clear ho)
    | (go_at_call 7; refine SH.mono ?_; rintro e' w0 ⟨rfl, hb0⟩; have hs0 := hb0.size))
  have HW : Hid (Below w.heap.size w (w2.alloc (.cells c2.cells 25))) := BW
  clear BW hb0 hb1 hb2 nd2 htok SH AL MO
  generalize hWW : w2.alloc (.cells c2.cells 25) = W at *
  go_loopg [12, 13] A.ts.length (fun gf s12 s13 X => ∃ j : Nat, s13 = .int .i64 (j : Int) ∧ s12 = .int .i64 (endP A.ts q j) ∧ X = W ∧ j + 1 ≤ A.ts.length ∧ A.ts.length ≤ j + gf)
  case atStart => exact ⟨0, rfl, rfl, rfl, by omega, by omega⟩
  case round =>
    obtain ⟨j, rfl, rfl, hX, hj, hgf⟩ := hrel
    subst hX
    by_cases hlt : j + 1 < A.ts.length
    · obtain ⟨g', rfl⟩ : ∃ g', gk = g' + 1 := ⟨gk - 1, by omega⟩
      have d0 : decide ((j : Int) + 1 < (A.ts.length : Int)) = true := decide_eq_true (by omega)
      have c1 : wr.cell? ⟨g, j * 4 + 3, none⟩ = some (.int .i64 (((A.ts.getD j ⟨0, [], 0, 0⟩).p : Nat) : Int)) := by
        rw [TW.out j (by omega) 3 (by omega), List.getD_eq_getElem?_getD, List.getElem?_eq_getElem (by omega)]; rfl
      have c2' : wr.cell? ⟨g, (j + 1) * 4 + 3, none⟩ = some (.int .i64 (((A.ts.getD (j + 1) ⟨0, [], 0, 0⟩).p : Nat) : Int)) := by
        rw [TW.out (j + 1) (by omega) 3 (by omega), List.getD_eq_getElem?_getD, List.getElem?_eq_getElem (by omega)]; rfl
      have b1 : (j : Int) < (A.ts.length : Int) := by omega
      have b2 : (j : Int) + 1 < (A.ts.length : Int) := by omega
      have E1 : endP A.ts q (j + 1) = if (A.ts.getD j ⟨0, [], 0, 0⟩).p = q then ((A.ts.getD (j + 1) ⟨0, [], 0, 0⟩).p : Int) else endP A.ts q j := rfl
      generalize (A.ts.getD j ⟨0, [], 0, 0⟩).p = pj at c1 E1
      generalize (A.ts.getD (j + 1) ⟨0, [], 0, 0⟩).p = pk at c2' E1
      by_cases hp : pj = q
      · have d1 : ((pj : Int) == (q : Int)) = true := by rw [hp]; simp
        rw [if_pos hp] at E1
        clear hp
        go_wp2
        go_roundg g'
        case measure => omega
        case rel => exact ⟨j + 1, by simp, by rw [E1], rfl, by omega, by omega⟩
      · have d1 : ((pj : Int) == (q : Int)) = false := by rw [beq_eq_false_iff_ne]; omega
        rw [if_neg hp] at E1
        clear hp
        go_wp2
        go_roundg g'
        case measure => omega
        case rel => exact ⟨j + 1, by simp, by rw [E1], rfl, by omega, by omega⟩
    · have d0 : decide ((j : Int) + 1 < (A.ts.length : Int)) = false := decide_eq_false (by omega)
      rcases endP_or A.ts q j with h1 | ⟨i, hi, hiq, h1⟩
      · rw [h1]
        go_wp2
        go_ret
        exact ⟨rfl, HW.out⟩
      · rw [h1]
        have hil : i + 1 < A.ts.length := by omega
        have hpk := hle (i + 1)
        have HQ := HP.out i hil hiq
        generalize (A.ts.getD (i + 1) ⟨0, [], 0, 0⟩).p = pk at hpk HQ ⊢
        have k0 : decide ((pk : Int) < 0) = false := decide_eq_false (by omega)
        have hzt : (bs (l.take pk)).size = pk := by rw [bs_size, List.length_take]; omega
        have sl := slice_to l pk hpk
        have ct := cat3 (l.take pk) r
        by_cases hbig : 16384 < pk + 1 + r.length
        · have k1 : decide ((16384 : Int) < (pk : Int) + 1 + (r.length : Int)) = true := decide_eq_true (by omega)
          go_wp2
          go_ret
          exact ⟨rfl, HW.out⟩
        · have k1 : decide ((16384 : Int) < (pk : Int) + 1 + (r.length : Int)) = false := decide_eq_false (by omega)
          have HT := HQ _ rfl (by rw [List.length_append, List.length_take, List.length_cons]; omega)
          have HF2 := HF.out (l.take pk ++ 32 :: r)
          have A2 : Hid (∀ X, Below w.heap.size w X → Calls Tryd.prog 11 #[.string (bs (l.take pk ++ 32 :: r))] X _) := AT.out _
          have M2 : Hid (∀ X, Below w.heap.size w X → Calls Tryd.prog 9 #[.string (bs (l.take pk ++ 32 :: r))] X (PostA X (ansM (l.take pk ++ 32 :: r)))) := MT.out _
          generalize l.take pk ++ 32 :: r = t at HT HF2 A2 M2 ct
          generalize hM2 : ansM t = M2' at *
          obtain ⟨n2, q2, f2⟩ := M2'
          simp only at HT HF2 M2
          generalize allP t = T at *
          have FIN : ((T.e != 0) = true ∧ (f2 == T.e) = true) ∨ ((T.e != 0) = false ∧ (T.e == 0) = true ∧ (f2 == 90) = true ∧ ((q2 : Int) == (q : Int)) = true) := by
            by_cases h : T.e = 0
            · have := HT h
              simp only [Prod.mk.injEq] at this
              exact .inr ⟨by rw [h]; rfl, by rw [h]; rfl, by rw [this.2]; rfl, by rw [this.1]; simp⟩
            · exact .inl ⟨by simpa using h, by rw [HF2 h]; simp⟩
          clear HT HF2 HQ HP HF AT MT
          rcases FIN with ⟨z1, z2⟩ | ⟨z1, z2, z3, z4⟩
          · go_wp2_with (first
              | (go_at_call 11; refine (A2.out _ HW.out).mono ?_; rintro e' w3 ⟨v3, rfl, ho3, hb3⟩; have hs3 := hb3.size; have W3 : Hid (Below w.heap.size w w3) := HW.out.trans (hb3.mono HW.out.size))
              | (go_at_call 9; refine (M2.out _ W3.out).mono ?_; rintro e' w4 ⟨c4, rfl, nd4, hb4⟩; have hs4 := hb4.size))
            go_ret
            exact ⟨rfl, W3.out.trans ((hb4.trans ((Below.refl _ _).alloc hs4 _)).mono W3.out.size)⟩
          · go_wp2_with (first
              | (go_at_call 11; refine (A2.out _ HW.out).mono ?_; rintro e' w3 ⟨v3, rfl, ho3, hb3⟩; have hs3 := hb3.size; have W3 : Hid (Below w.heap.size w w3) := HW.out.trans (hb3.mono HW.out.size))
              | (go_at_call 9; refine (M2.out _ W3.out).mono ?_; rintro e' w4 ⟨c4, rfl, nd4, hb4⟩; have hs4 := hb4.size))
            go_ret
            exact ⟨rfl, W3.out.trans ((hb4.trans ((Below.refl _ _).alloc hs4 _)).mono W3.out.size)⟩
theorem stops_any (s rest : ByteArray) (hr : rest.size ≤ 4611686018427387904) (w : World) (V : Vars w) : Calls Tryd.prog 5 #[.string s, .string rest] w fun e w' => e = .returned (.bool true) ∧ Below w.heap.size w w' := by
  rw [← bs_of s, ← bs_of rest]
  have hr2 : rest.data.toList.length ≤ 4611686018427387904 := by rw [Array.length_toList]; exact hr
  generalize s.data.toList = l
  generalize rest.data.toList = r at hr2
  by_cases he : (allP l).e = 0
  · by_cases hf : (ansM l).2.2 = 90
    · exact stops_goes l r hr2 w V he hf
    · exact stops_fails l r w V (.inr hf)
  · exact stops_fails l r w V (.inl he)
end Go.Proofs.YtendpkflckfgoaaDoor

namespace Go.Proofs.YtendpkflckfgoaaDoor
set_option linter.unusedVariables false
set_option linter.unusedSimpArgs false
open Go.ChangeShapes Go.WideShapes Go.ChangeAt Go.RowKit

theorem at_of {l : List Value} {k : Nat} {v : Value} (h : (l.drop k).take 1 = [v]) : l[k]? = some v := by
  have : ((l.drop k).take 1)[0]? = some v := by rw [h]; rfl
  simpa using this
theorem some_of {α : Type} {xs : List α} {n i : Nat} (h : xs.length = n) (hi : i < n) : ∃ y, xs[i]? = some y := ⟨xs[i]'(by omega), List.getElem?_eq_getElem (by omega)⟩
theorem Tryd.cells9 : Tryd.prog.cellsOf 9 = 1 := by kernel_rfl
/-- One listed variable: its block, its cells, what they read as. -/
def OneIs (W : World) (n : String) (d : DataW Unit) : Prop := ∃ g t cs fuel p, Tryd.prog.globalNamed n = some g ∧ (Tryd.prog.globals[g]?).map (·.type) = some t ∧ W.var? Tryd.prog n = some cs ∧ DataW.trod (fun _ => ()) Tryd.prog W 0 (fun _ => true) false fuel t cs.toList = some (d, p)
theorem laid_each {W : World} : ∀ {l : List (String × DataW Unit)} {ps : List MemPlace}, DataW.LaidVars Tryd.prog W l ps → ∀ x ∈ l, OneIs W x.1 x.2
  | [], _, _, x, hx => by cases hx
  | (n, d) :: r, ps, ⟨g, t, cs, fuel, p, q, h1, h2, h3, h4, h5, _⟩, x, hx => by
    rcases List.mem_cons.1 hx with rfl | hx
    · exact ⟨g, t, cs, fuel, p, h1, h2, h3, h4⟩
    · exact laid_each h5 x hx
theorem strs_of {W : World} {n : String} {ls : List Bs} {g t m : Nat} (h : OneIs W n (.agg (ls.map fun s => .lit (.string s)))) (hg : Tryd.prog.globalNamed n = some g) (ht : (Tryd.prog.globals[g]?).map (·.type) = some t) (hu : Tryd.prog.underlying t = some (.array m 9)) (hm : ls.length = m) :
    ∀ o (ho : o < ls.length), W.cell? ⟨g, o, none⟩ = some (.string (bs ls[o])) := by
  obtain ⟨g', t', cs, fuel, p, h1, h2, h3, h4⟩ := h
  obtain rfl := Option.some.inj (hg.symm.trans h1)
  obtain rfl := Option.some.inj (ht.symm.trans h2)
  obtain ⟨xs, k, _, ex, _, hl, hel⟩ := DataW.trod_array hu h4
  have e1 : ls.map (fun s => (.lit (.string s) : DataW Unit)) = xs.map (·.1) := by have := (Prod.mk.inj ex).1; simpa using this
  intro o ho
  obtain ⟨y, hy⟩ := some_of hl (hm ▸ ho)
  have hE := hel o (hm ▸ ho)
  rw [hy, Tryd.cells9] at hE
  obtain ⟨s, e2, e3, _⟩ := DataW.trod_string Tryd.underlying9 hE
  have h5 := at_of e2
  rw [World.var?_cell hg h3 o]
  have h6 : cs[o]? = some (.string s) := by simpa using h5
  rw [h6]
  have h7 : (ls.map (fun s => (.lit (.string s) : DataW Unit)))[o]? = (xs.map (·.1))[o]? := by rw [e1]
  rw [List.getElem?_map, List.getElem?_map, hy, List.getElem?_eq_getElem ho] at h7
  simp only [Option.map_some, Option.some.injEq, e3, DataW.lit.injEq, Lit.string.injEq] at h7
  rw [h7, bs_of]
theorem keys_eq : (Rows.laid_carrel_scan_keywords : DataW Unit) = .agg (keysL.map fun s => .lit (.string s)) := rfl
theorem signs_eq : (Rows.laid_carrel_scan_signs : DataW Unit) = .agg (signsL.map fun s => .lit (.string s)) := rfl
theorem keys_of {W : World} (h : OneIs W "carrel/scan.keywords" Rows.laid_carrel_scan_keywords) : KVars W := by
  rw [keys_eq] at h
  have hk := strs_of (g := 1) h (by kernel_rfl) (by kernel_rfl) Tryd.underlying75 rfl
  exact ⟨World.block_lt_of_cell? W _ (hk 0 (by decide)), hk⟩
theorem vars_of {W : World} (h : OneIs W "carrel/scan.keywords" Rows.laid_carrel_scan_keywords) (hs : OneIs W "carrel/scan.signs" Rows.laid_carrel_scan_signs) : Vars W := by
  rw [signs_eq] at hs
  have hk := strs_of (g := 0) hs (by kernel_rfl) (by kernel_rfl) Tryd.underlying72 rfl
  have h1 := (keys_of h).1
  have h2 := World.block_lt_of_cell? W _ (hk 0 (by decide))
  exact ⟨keys_of h, (by simp at h1 h2 ⊢; omega), hk⟩
/-- The tables that a law lists. -/
def laid2 : List (String × DataW Unit) := Rows.treeStopsRow.laid
theorem vars_laid {W : World} (h : laidMetH Tryd.prog laid2 W) : Vars W := by
  rw [MakeChecks.laidMetH_plain _ _ _ (by kernel_rfl)] at h
  obtain ⟨ps, hl, _⟩ := h
  exact vars_of (laid_each hl ("carrel/scan.keywords", Rows.laid_carrel_scan_keywords) (by simp [laid2, Rows.treeStopsRow])) (laid_each hl ("carrel/scan.signs", Rows.laid_carrel_scan_signs) (by simp [laid2, Rows.treeStopsRow]))
/-- A contract at the worlds that a row speaks of, by its listed variables and by the shape of all others. -/
theorem returns_laid {C : Checked} {H : Type} {enc : TypeId × Value → H} {os : Os} {f : FuncId} {fn : Func} {s : ChangeSpec} {X : World → Array Value → Prop} (hX : ∀ (w w' : World) (args : Array Value), w.heap = w'.heap → X w args → X w' args)
    (own : ownKnob C.prog.godebug = none) (started : os.Started) (noInit : C.prog.inits.idxOf? f = none) (hfn : C.prog.funcs[f]? = some fn)
    (witness : ∃ (w : World) (tape : Tape) (i : Input), w.os = os ∧ (w.forCall tape i).Shaped C.prog ∧ i.vars = [] ∧ Input.okWide C.prog (w.forCall tape i) .any w.heap.size f i ∧
      ((s.pre enc C.prog fn [] false (w.forCall tape i).memory i.args ∧ X (w.forCall tape i).memory i.args) ∧ sizedMet enc C.prog fn (OpenSpec.ofChange s) false (w.forCall tape i).memory i.args) ∧ ({} : Assume).holds C.prog (lone (Frame.enter C.prog f i.args .normal) [] (w.forCall tape i)))
    (K : ∀ (W : World) (base : Nat) (args : Array Value) (ds gs : List (DataW H)) (before : List MemPlace), W.ShapedOpen C.prog → X W args →
      (∀ (j : Nat) t v, fn.params[j]? = some t → args[j]? = some v → Value.okWide C.prog W .any base t v) → DataW.Whole enc C.prog fn.params.toList s.vars false W args.toList ds gs before →
      Calls C.prog f args W fun e W' => ∃ v, e = .returned v ∧ s.post enc C.prog fn false true false false W args v W') :
    ReturnsInHanded {} C os f .any (fun w args => (s.pre enc C.prog fn [] false w args ∧ X w args) ∧ sizedMet enc C.prog fn (OpenSpec.ofChange s) false w args) (s.post enc C.prog fn false true false false) := by
  refine returnsInHanded_of_calls own started noInit witness fun w tape i _ hS _ ok pre _ => ?_
  obtain ⟨_, _, _, fn', h', _, _, _, _, hv⟩ := ok
  obtain rfl : fn' = fn := Option.some.inj (h'.symm.trans hfn)
  obtain ⟨⟨⟨ds, gs, before, hw, _⟩, hx⟩, _⟩ := pre
  refine (K (w.forCall tape i) w.heap.size i.args ds gs before hS (hX _ _ _ (by rfl) hx) hv (DataW.Whole.of_heap (w' := w.forCall tape i) (by rfl) hw)).mono fun e W' ⟨v, he, hp⟩ => ?_
  subst he
  exact ChangeSpec.post_blind hp
/-- .. told besides that what comes in is not too large. -/
theorem returns_sized {C : Checked} {H : Type} {enc : TypeId × Value → H} {os : Os} {f : FuncId} {fn : Func} {s : ChangeSpec} {X : World → Array Value → Prop} (hX : ∀ (w w' : World) (args : Array Value), w.heap = w'.heap → X w args → X w' args)
    (own : ownKnob C.prog.godebug = none) (started : os.Started) (noInit : C.prog.inits.idxOf? f = none) (hfn : C.prog.funcs[f]? = some fn)
    (witness : ∃ (w : World) (tape : Tape) (i : Input), w.os = os ∧ (w.forCall tape i).Shaped C.prog ∧ i.vars = [] ∧ Input.okWide C.prog (w.forCall tape i) .any w.heap.size f i ∧
      ((s.pre enc C.prog fn [] false (w.forCall tape i).memory i.args ∧ X (w.forCall tape i).memory i.args) ∧ sizedMet enc C.prog fn (OpenSpec.ofChange s) false (w.forCall tape i).memory i.args) ∧ ({} : Assume).holds C.prog (lone (Frame.enter C.prog f i.args .normal) [] (w.forCall tape i)))
    (K : ∀ (W : World) (base : Nat) (args : Array Value) (ds gs : List (DataW H)) (before : List MemPlace), W.ShapedOpen C.prog → X W args →
      (∀ (j : Nat) t v, fn.params[j]? = some t → args[j]? = some v → Value.okWide C.prog W .any base t v) → DataW.Whole enc C.prog fn.params.toList s.vars false W args.toList ds gs before →
      (∃ ds' gs' before', DataW.Whole enc C.prog fn.params.toList s.vars false W args.toList ds' gs' before' ∧ (DataW.weightsEach C.prog (fn.params.toList ++ (OpenSpec.ofChange s).bare.plain.varTypes C.prog) (ds' ++ gs')).all (· ≤ reachBytes) = true) →
      Calls C.prog f args W fun e W' => ∃ v, e = .returned v ∧ s.post enc C.prog fn false true false false W args v W') :
    ReturnsInHanded {} C os f .any (fun w args => (s.pre enc C.prog fn [] false w args ∧ X w args) ∧ sizedMet enc C.prog fn (OpenSpec.ofChange s) false w args) (s.post enc C.prog fn false true false false) := by
  refine returnsInHanded_of_calls own started noInit witness fun w tape i _ hS _ ok pre _ => ?_
  obtain ⟨_, _, _, fn', h', _, _, _, _, hv⟩ := ok
  obtain rfl : fn' = fn := Option.some.inj (h'.symm.trans hfn)
  obtain ⟨⟨⟨ds, gs, before, hw, _⟩, hx⟩, _, ds', gs', before', hw', hz'⟩ := pre
  refine (K (w.forCall tape i) w.heap.size i.args ds gs before hS (hX _ _ _ (by rfl) hx) hv (DataW.Whole.of_heap (w' := w.forCall tape i) (by rfl) hw) ⟨ds', gs', before', DataW.Whole.of_heap (w' := w.forCall tape i) (by rfl) hw', hz'⟩).mono fun e W' ⟨v, he, hp⟩ => ?_
  subst he
  exact ChangeSpec.post_blind hp
theorem ownK : ownKnob Tryd.prog.godebug = none := by kernel_rfl
theorem laidOutB8 : laidOutB Tryd.prog = true := by kernel_rfl
end Go.Proofs.YtendpkflckfgoaaDoor

namespace Go.Proofs.YtendpkflckfgoaaDoor
open Go.ChangeShapes Go.WideShapes Go.ChangeAt Go.RowKit
open Go.ChangeMaps (open_string shut_string)
set_option linter.unusedVariables false

namespace treeStops
set_option maxRecDepth 100000 in
theorem lifted (os : Os) (started : os.Started) (H : Type) (enc : TypeId × Value → H) :
    ReturnsInHanded {} Tryd.checked os 5 .any (fun w args => (Rows.treeStopsSpec.pre enc Tryd.prog Tryd.f5 [] false w args ∧ laidMetH Tryd.prog laid2 w) ∧ sizedMet enc Tryd.prog Tryd.f5 (OpenSpec.ofChange Rows.treeStopsSpec) false w args)
      (Rows.treeStopsSpec.post enc Tryd.prog Tryd.f5 false true false false) := by
  refine returns_sized (C := Tryd.checked) (X := fun w _ => laidMetH Tryd.prog laid2 w) (fun _ _ _ hh h => h.of_heap hh) ownK started (by kernel_rfl) Tryd.func5
    (ChangeSpec.witness_shaped (enc := enc) (C := Tryd.checked) (os := os) (X := fun w _ => laidMetH Tryd.prog laid2 w) false (World.laidAll Tryd.prog os laid2) #[.string ⟨#[]⟩, .string ⟨#[]⟩] 8 (World.laidAll_os _ _ _)
      (World.shaped_of_ZipB (by kernel_rfl) (by kernel_rfl)) (by kernel_rfl) (by kernel_rfl) (by kernel_rfl)
      (by rw [MakeChecks.laidMetH_plain _ _ _ (by kernel_rfl)]; exact laidMet_laidAll _ (by kernel_rfl) (by kernel_rfl))) ?_
  intro W base args ds gs before hS hL hval0 hW hZ
  have V := vars_laid hL
  clear hS hL
  have hval : ∀ (j : Nat) t v, Tryd.f5.params[j]? = some t → args[j]? = some v → Value.okWide Tryd.prog W .any base t v := hval0
  have hW' := hW
  obtain ⟨p, q, hA0, hV, rfl, hfz, hnd⟩ := hW
  have hA : DataW.TrodAll enc Tryd.prog W 0 (fun _ => true) true Tryd.f5.params.toList args.toList ds p := hA0
  rw [Tryd.params5] at hA hval
  obtain ⟨v0, vs0, d0, ds0, p0, q0, hargs, rfl, rfl, h0, r0⟩ := trodAll_cons hA
  obtain ⟨v1, vs1, d1, ds1, p1, q1, rfl, rfl, rfl, h1, r1⟩ := trodAll_cons r0
  obtain ⟨rfl, rfl, rfl⟩ := trodAll_nil r1
  obtain rfl : args = #[v0, v1] := by cases args; simp_all
  obtain ⟨rfl, rfl⟩ := trodVars_none hV
  obtain ⟨s0, rfl, rfl, rfl, w0⟩ := open_string Tryd.underlying9 (hval 0 9 v0 rfl rfl) h0
  obtain ⟨s1, rfl, rfl, rfl, w1⟩ := open_string Tryd.underlying9 (hval 1 9 v1 rfl rfl) h1
  have hr : s1.size ≤ 4611686018427387904 := by
    obtain ⟨es, gs', before', ⟨p', q', hB0, hV', _⟩, hz⟩ := hZ
    have hB : DataW.TrodAll enc Tryd.prog W 0 (fun _ => true) true Tryd.f5.params.toList [.string s0, .string s1] es p' := hB0
    rw [Tryd.params5] at hB
    obtain ⟨_, _, _, _, _, _, hx, rfl, rfl, k0, k1⟩ := trodAll_cons hB
    obtain ⟨rfl, rfl⟩ := List.cons.inj hx
    obtain ⟨_, _, _, _, _, _, hy, rfl, rfl, k2, k3⟩ := trodAll_cons k1
    obtain ⟨rfl, _⟩ := List.cons.inj hy
    obtain ⟨_, e1, rfl, _, _⟩ := open_string Tryd.underlying9 (hval 0 9 _ rfl rfl) k0
    obtain ⟨_, e2, rfl, _, _⟩ := open_string Tryd.underlying9 (hval 1 9 _ rfl rfl) k2
    injection e2 with e2
    subst e2
    rw [Tryd.params5] at hz
    simp [DataW.weightsEach, DataW.weights, reachBytes] at hz
    have h3 := of_decide_eq_true hz.2.1
    omega
  clear hA0 hval0 hZ
  refine (stops_any s0 s1 hr W V).mono fun e W' ⟨he, bel⟩ => ?_
  subst he
  exact ⟨_, rfl, _, _, _, [], _, [], hW', trodAll_mk1 (shut_bool Tryd.underlying4 _), (trodAll_cons_mk (shut_string Tryd.underlying9 w0) (trodAll_cons_mk (shut_string Tryd.underlying9 w1) trodAll_mk0)), rfl, bel.frame _, fun h => by cases h⟩

theorem over : Rows.TreeStopsSaid :=
  OpenClaim.holds_of_wide 5 Tryd.f5 rfl rfl rfl rfl rfl rfl rfl ⟨rfl, rfl, rfl, rfl, rfl⟩ rfl rfl rfl rfl rfl (by kernel_rfl) Tryd.func5 (by kernel_rfl)
    (of_decide_eq_true (by kernel_rfl)) (by unfold Func.isWrapper; first | (rw [if_pos (by decide +kernel)]; kernel_rfl) | (rw [if_neg (by decide +kernel)]; exact ⟨rfl, rfl⟩))
    (fun os started H enc _ => lifted os started H enc)
end treeStops
/-- The given card. -/
theorem treeStops_holds : Rows.TreeStopsCardSaid :=
  Claim7.holds_tied_plain_at .later [] _ _ _ _ treeStops.over (fun _ h => by cases h) (by kernel_rfl) (fun _ h => by cases h) treeStops_row_tie rfl ⟨rfl, rfl⟩ (by kernel_rfl) rfl
    (fun f fn hf hfn => by
      obtain rfl : f = 5 := Option.some.inj ((show Tryd.prog.funcNamed "carrel/carrellaw09.TreeStops" = some 5 by kernel_rfl).symm.trans hf) |>.symm
      obtain rfl : fn = Tryd.f5 := (Option.some.inj (Tryd.func5.symm.trans hfn)).symm
      exact ⟨by kernel_rfl, fun j t ht => by
        rw [Tryd.params5] at ht
        have hm : t ∈ [9, 9] := by simpa using Array.mem_of_getElem? ht
        have hall : ([9, 9].all fun u => !Tryd.prog.wantsStandIn u) = true := by kernel_rfl
        exact (show Tryd.prog.wantsStandIn t = false by simpa using List.all_eq_true.1 hall t hm)⟩)
    (by kernel_rfl)
#print axioms treeStops_holds
end Go.Proofs.YtendpkflckfgoaaDoor
