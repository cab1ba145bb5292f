/-
  Layer 9, the document's: designators.
-/
import Derived.Test.YtejcjhoojpoamaaDoorDcl
import Derived.Test.YtejcjhoojpoamaaDoorDsg
namespace Go.Proofs.YtejcjhoojpoamaaDoor
set_option linter.unusedVariables false
set_option linter.unusedSimpArgs false
open Go.ChangeShapes Go.WideShapes Go.ChangeAt Go.RowKit
attribute [local go_sem ↓] loadTk_seal storeTk_seal loadKeys_seal loadSigns_seal
attribute [local go_sem] loadTk_run storeTk_run rowAt_at rowAt_old rowAt_drew rowAt_drewN roomTk_new roomAt_old roomAt_drew roomAt_drewN putTk_new Tk.fold putRow_past rowTk_put size_put putRow_drew putRow_drewN alloc_drewN setCell_drewN Tk.at0 Tk.at1 Tk.at2 Tk.at3 Tk.size Tk.set0 Tk.set1 Tk.set2 Tk.set3 Tk.ne rowAt_set rowAt_far roomAt_far
attribute [local go_sem ↓] loadNd_seal storeNd_seal
attribute [local go_sem] loadNd_run storeNd_run roomNd_new putNd_new Nc.fold rowNd_put Nc.at0 Nc.at1 Nc.at2 Nc.at3 Nc.at4 Nc.at5 Nc.size Nc.set0 Nc.set1 Nc.set2 Nc.set3 Nc.set4 Nc.set5 Nc.ne
attribute [local go_sem] fieldTk0 fieldTk3
attribute [local go_sem ↓] bslNd_seal
attribute [local go_sem] bslNd1_run bslNd2_run

def Lde (w X : World) (b g cap : Nat) (L : List Tok) (i o qt qx : Nat) (R : Rs Nd) (f j : Nat) : Prop := ∃ l c tc f1, f1 ≤ f ∧ run f1 (.desigL l) o (L.drop j) = R ∧ (L.length - j) * 40 + 4 ≤ f1 ∧ i < j ∧ rowAt X qx = some (Nc.cells c) ∧ roomAt X qx 6 = true ∧ rowAt X qt = some (Tk.cells tc) ∧ roomAt X qt 4 = true ∧ roomAt X w.heap.size 6 = true ∧ Ds w X b g cap L j (o : Int) 0 0 ∧ NdAt X (fun x => w.heap.size + 1 ≤ x ∧ x ≠ qx ∧ x ≠ qt) c l
def Ldx (w X : World) (b g cap : Nat) (L : List Tok) (qx : Nat) (R : Rs Nd) : Prop := ∃ c i' o' p er, er ≠ 0 ∧ R = .bad p er ∧ rowAt X qx = some (Nc.cells c) ∧ roomAt X qx 6 = true ∧ roomAt X w.heap.size 6 = true ∧ Ds w X b g cap L i' o' er (p : Int)
theorem fuel2 {n j f : Nat} (h : (n - j) * 40 + 4 ≤ f + 1) (hj : j + 1 < n) : (n - (j + 1 + 1)) * 40 + 4 ≤ f := by
  obtain ⟨d, rfl⟩ : ∃ d, n = j + 2 + d := ⟨n - (j + 2), by omega⟩
  have e1 : j + 2 + d - j = d + 2 := by omega
  have e2 : j + 2 + d - (j + 1 + 1) = d := by omega
  rw [e1] at h
  rw [e2]
  omega
theorem rowTk_keep {X : World} {q : Nat} {c : Tk} (h : roomAt X q 4 = true) : roomAt (putRow X q c.cells) q 4 = true := room_keep h _ rfl
theorem da_self {W : World} {q : Nat} {c : Nc} {o1 o2 : Obj} (k : roomAt W q 6 = true) (hq : q < W.heap.size) : rowAt (((putRow W q c.cells).alloc o1).alloc o2) q = some c.cells :=
  (rowAt_old _ _ _ (by simp [size_put]; omega)).trans ((rowAt_old _ _ _ (by rw [size_put]; omega)).trans (rowNd_put _ _ _ k))
theorem da_room {W : World} {q : Nat} {c : Nc} {o1 o2 : Obj} (k : roomAt W q 6 = true) (hq : q < W.heap.size) : roomAt (((putRow W q c.cells).alloc o1).alloc o2) q 6 = true :=
  (roomAt_old _ _ _ _ (by simp [size_put]; omega)).trans ((roomAt_old _ _ _ _ (by rw [size_put]; omega)).trans (room_keep k _ rfl))
theorem da_new {W : World} {q : Nat} {X : Array Value} {o1 : Obj} {c : Nc} : (((putRow W q X).alloc o1).alloc (.cells c.cells 25)).heap[W.heap.size + 1]? = some (.cells c.cells 25 (0, 0)) := heap_new' _ _ (by simp [size_put])
theorem da_size {W : World} {q : Nat} {X : Array Value} {o1 o2 : Obj} : W.heap.size ≤ (((putRow W q X).alloc o1).alloc o2).heap.size := by simp [size_put]; omega
theorem desfacts {w wr w2 W : World} {b g cap j o qt qx : Nat} {L : List Tok} {c : Nc} {l : Nd} {tk : Tk} (r0 : rowAt wr qx = some c.cells) (k0 : roomAt wr qx 6 = true) (kt0 : roomAt wr qt 4 = true) (m0 : roomAt wr w.heap.size 6 = true) (SJ : Ds w wr b g cap L j (o : Int) 0 0) (nd : NdAt wr (fun x => w.heap.size + 1 ≤ x ∧ x ≠ qx ∧ x ≠ qt) c l) (hb2 : Below wr.heap.size wr w2) (hW : Below (putRow w2 qt tk.cells).heap.size (putRow w2 qt tk.cells) W) (hqx : qx < wr.heap.size) (hqt : qt < wr.heap.size) (hqq : qx ≠ qt) (hq0 : w.heap.size < qt) (bl : b < w.heap.size) (gl : g < w.heap.size) (h5 : w.heap.size < wr.heap.size) (h6 : w.heap.size ≤ qt) (h7 : w.heap.size ≠ qt) :
    rowAt W qx = some c.cells ∧ roomAt W qx 6 = true ∧ rowAt W qt = some tk.cells ∧ roomAt W qt 4 = true ∧ roomAt W w.heap.size 6 = true ∧ Ds w W b g cap L j (o : Int) 0 0 ∧ NdAt W (fun x => w.heap.size + 1 ≤ x ∧ x ≠ qx ∧ x ≠ qt) c l := by
  have z2 := hb2.size
  have kt2 : roomAt w2 qt 4 = true := (roomAt_below hb2 _ _ hqt).trans kt0
  have bx : ∀ x, x < wr.heap.size → x ≠ qt → W.heap[x]? = wr.heap[x]? := fun x hx hn => (hW.block x (by rw [size_put]; omega)).trans ((put_far _ _ _ _ hn).trans (hb2.block x hx))
  refine ⟨row_of2 (bx qx hqx hqq) r0, room_of2 (bx qx hqx hqq) k0, (rowAt_below hW _ (by rw [size_put]; omega)).trans (rowTk_put _ _ _ kt2), (roomAt_below hW _ _ (by rw [size_put]; omega)).trans (rowTk_keep kt2), room_of2 (bx _ h5 h7) m0, ((SJ.below hb2).old bl gl _ h6 _).below hW, nd.keep (fun _ hx _ => hx) (by have := hW.size; rw [size_put] at this; omega) (fun x hx hl => bx x hl hx.2.2)⟩
set_option maxHeartbeats 40000000 in
set_option maxRecDepth 20000 in
theorem ddesig_step (f : Nat) (hE : ∀ f', f' ≤ f → Pd 19 .expr f') : Pd 120 .desig (f + 1) := by
  intro w b g cap L i o h ho hok hf
  have bl := h.bl
  have gl := h.gl
  have hil := h.il
  have H : Hid (DAt w b g cap L i (o : Int) 0 0) := h
  have hf0 : (L.length - i) * 40 + 10 ≤ f + 1 := hf
  have HE : Hid (∀ f', f' ≤ f → Pd 19 .expr f') := hE
  have HOK : Hid (∀ x ∈ L, okT x) := hok
  rw [run]
  obtain ⟨R, hR⟩ : ∃ R, R = (nameR (L.drop i)).bind fun x r => run f (.desigL (.mk 31 x.t 0 false [] x.p)) o r := ⟨_, rfl⟩
  rw [← hR]
  unfold nameR at hR
  have tail : ∀ (w1 : World) (tc : Tk) (cx : Nc), w.heap.size < w1.heap.size → True := fun _ _ _ _ => trivial
  by_cases hn : (hd (L.drop i)).k = 1
  · rw [if_pos hn, Rs.bind_ok, List.tail_drop] at hR
    have NM : Hid (∀ X, DAt X b g cap L i (o : Int) 0 0 → Calls Tryd.prog 130 #[.pointer (some ⟨b, 0, none⟩)] X _) := fun X hX => name_t X b g cap L i _ 0 hX (by omega) (by rw [kd_live]; simpa using hn)
    clear hE hok h hf hn tail
    generalize hd (L.drop i) = t0 at NM hR
    have HR0 : Hid (run f (.desigL (.mk 31 t0.t 0 false [] t0.p)) o (L.drop (i + 1)) = R) := hR.symm
    clear hR
    go_enter Tryd.func120, Tryd.ntmps120
    go_wp2_with (go_at_call 130; refine (NM.out _ (H.out.alloc _)).mono ?_; rintro e w1 ⟨rfl, s1⟩; have l1 := s1.size; simp at l1)
    have q1 : w.heap.size < w1.heap.size := by omega
    have i1l := s1.rd.il
    have LP : Lde w ((w1.alloc (.cells t0.tk.cells 38)).alloc (.cells (⟨31, bs t0.t, 0, false, none, 0, 0, (t0.p : Int)⟩ : Nc).cells 25)) b g cap L i o w1.heap.size (w1.heap.size + 1) R f (i + 1) :=
      ⟨_, _, _, f, Nat.le_refl _, HR0.out, by omega, by omega, rowAt_at _ _ _ _ _ (by simp), roomNd_new _ _ _ _ (by simp), (rowAt_old _ _ _ (by simp)).trans (rowAt_at _ _ _ _ _ rfl), (roomAt_old _ _ _ _ (by simp)).trans (roomTk_new _ _ _ _ rfl), (roomAt_old _ _ _ _ (by simp; omega)).trans ((roomAt_old _ _ _ _ (by omega)).trans ((s1.room (by simp) (by omega) 6).trans (roomNd_new _ _ _ _ (by simp)))), ((((Ds.refl H.out).alloc _).next s1).alloc _).alloc _, NdAt.mk 31 t0.t 0 false [] t0.p none 0 (KidsAt.nil _ _)⟩
    have hqq : w1.heap.size + 1 ≠ w1.heap.size := by omega
    have hqx0 : w.heap.size < w1.heap.size + 1 := by omega
    clear NM s1 HR0
    generalize w1.heap.size + 1 = qx at *
    generalize w1.heap.size = qt at *
    have hq0 : w.heap.size < qt := q1
    go_loopg [] (L.length + 1) (fun gf X => ∃ j, (Lde w X b g cap L i o qt qx R f j ∧ L.length + 1 ≤ j + gf) ∨ Ldx w X b g cap L qx R)
    case atStart => exact ⟨i + 1, .inl ⟨LP, by omega⟩⟩
    case round =>
      obtain ⟨j, ⟨⟨l, c, tc, f1, hf1, hrun, hfu, hij, r0, k0, t0', kt0, m0, SJ, nd⟩, hg⟩ | ⟨c, i', o', p, er, he, hRb, r0, k0, m0, SJ⟩⟩ := hrel
      · have hjl := SJ.rd.il
        obtain ⟨g', rfl⟩ : ∃ g', gk = g' + 1 := ⟨gk - 1, by omega⟩
        obtain ⟨f2, rfl⟩ : ∃ f2, f1 = f2 + 1 := ⟨f1 - 1, by omega⟩
        obtain ⟨f3, hf3⟩ : ∃ f3, f2 = f3 + 1 := ⟨f2 - 1, by omega⟩
        have hsz := SJ.size
        have hqx := row_lt r0
        have hqt := room_lt kt0
        have c30 := SJ.rd.c3
        have l0 := SJ.rd.bl
        have A0 : Hid (Ds w wr b g cap L j (o : Int) 0 0 ∧ NdAt wr (fun x => w.heap.size + 1 ≤ x ∧ x ≠ qx ∧ x ≠ qt) c l) := ⟨SJ, nd⟩
        have okj := SJ.rd.okt HOK.out
        have w1' := sg_wd (s := [46]) okj (by decide)
        have w2' := sg_wd (s := [91]) okj (by decide)
        have w3' := sg_wd (s := [94]) okj (by decide)
        have w4' := sg_wd (s := [40]) okj (by decide)
        have SA : Hid (∀ X s, DAt X b g cap L j (o : Int) 0 0 → Calls Tryd.prog 76 #[.pointer (some ⟨b, 0, none⟩), .string (bs s)] X _) := fun X s hX => sign_d X b g cap L j _ _ _ hX s
        rw [desig_eq] at hrun
        clear SJ nd LP okj t0'
        by_cases h1 : wd (L.drop j) = [46]
        · have d1 : sgB 0 (hd (L.drop j)) [46] = true := by rw [w1']; simpa using h1
          have hk0 : (hd (L.drop j)).k ≠ 0 := wd_kind (by rw [h1]; decide)
          clear w1' w2' w3' w4'
          rw [if_pos h1] at hrun
          unfold fldR at hrun
          rw [List.tail_drop] at hrun
          have HK : Hid ((hd (L.drop j)).k ≠ 0) := hk0
          have hj1 : j + 1 < L.length := A0.out.1.rd.last j A0.out.1.rd.il (by rw [← A0.out.1.rd.hd]; exact hk0)
          unfold nameR at hrun
          by_cases hn : (hd (L.drop (j + 1))).k = 1
          · rw [if_pos hn, Rs.bind_ok, Rs.bind_ok, List.tail_drop] at hrun
            have HR : Hid (run f2 (.desigL (.mk 32 (hd (L.drop (j + 1))).t 0 false [l] (hd (L.drop j)).p)) o (L.drop (j + 1 + 1)) = R) := hrun
            have NK : Hid ((hd (L.drop (j + 1))).k ≠ 0 ∧ kdB 0 (hd (L.drop (j + 1))) 1 = true) := ⟨by omega, by rw [kd_live]; simpa using hn⟩
            clear hrun hn hk0 h1
            go_wp2_with (first
              | (go_at_call 76; have hx := hb5; clear hx; refine (SA.out _ [40] (HN.out _ hb5).2.2.2.2.2.1.rd).mono ?_; rintro e w6 ⟨rfl, hb6'⟩; have hb6 : Below (putRow w2 qt (hd (L.drop j)).tk.cells).heap.size (putRow w2 qt (hd (L.drop j)).tk.cells) w6 := (hb5.trans (hb6'.mono (hb5.size))); obtain ⟨r6, k6, t6, kt6, m6, S6, nd6⟩ := HN.out w6 hb6; have hs6 := hb6.size; rw [size_put] at hs6; have ct6 := rowAt_cell t6; have B6 : Hid (Ds w w6 b g cap L j (o : Int) 0 0 ∧ NdAt w6 (fun x => w.heap.size + 1 ≤ x ∧ x ≠ qx ∧ x ≠ qt) c l) := ⟨S6, nd6⟩; clear S6 nd6)
              | (go_at_call 76; have hx := hb4; clear hx; refine (SA.out _ [94] (HN.out _ hb4).2.2.2.2.2.1.rd).mono ?_; rintro e w5 ⟨rfl, hb5'⟩; have hb5 : Below (putRow w2 qt (hd (L.drop j)).tk.cells).heap.size (putRow w2 qt (hd (L.drop j)).tk.cells) w5 := (hb4.trans (hb5'.mono (hb4.size))))
              | (go_at_call 76; have hx := hb3; clear hx; refine (SA.out _ [91] (HN.out _ hb3).2.2.2.2.2.1.rd).mono ?_; rintro e w4 ⟨rfl, hb4'⟩; have hb4 : Below (putRow w2 qt (hd (L.drop j)).tk.cells).heap.size (putRow w2 qt (hd (L.drop j)).tk.cells) w4 := (hb3.trans (hb4'.mono (hb3.size))))
              | (go_at_call 76; refine (SA.out _ [46] (HN.out _ (Below.refl _ _)).2.2.2.2.2.1.rd).mono ?_; rintro e w3 ⟨rfl, hb3'⟩; have hb3 : Below (putRow w2 qt (hd (L.drop j)).tk.cells).heap.size (putRow w2 qt (hd (L.drop j)).tk.cells) w3 := hb3')
              | (go_at_call 39; refine (peek_d _ b g cap L j _ _ _ A0.out.1.rd).mono ?_; rintro e w2 ⟨rfl, hb2⟩; have hs2 := hb2.size; have kt2 : roomAt w2 qt 4 = true := (roomAt_below hb2 _ _ (by omega)).trans kt0; have HN : Hid (∀ W, Below (putRow w2 qt (hd (L.drop j)).tk.cells).heap.size (putRow w2 qt (hd (L.drop j)).tk.cells) W → rowAt W qx = some c.cells ∧ roomAt W qx 6 = true ∧ rowAt W qt = some (hd (L.drop j)).tk.cells ∧ roomAt W qt 4 = true ∧ roomAt W w.heap.size 6 = true ∧ Ds w W b g cap L j (o : Int) 0 0 ∧ NdAt W (fun x => w.heap.size + 1 ≤ x ∧ x ≠ qx ∧ x ≠ qt) c l) := (fun W hW => desfacts r0 k0 kt0 m0 A0.out.1 A0.out.2 hb2 hW hqx hqt hqq hq0 bl gl (by omega) (by omega) (by omega)))
              | (go_at_call 36; refine (next_d _ b g cap L j _ _ _ B6.out.1.rd HK.out).mono ?_; rintro e w7 ⟨rfl, s7⟩; have hs7 := s7.size; have r7 : rowAt w7 qx = some c.cells := (s7.row (by omega) (by omega)).trans r6; have k7 : roomAt w7 qx 6 = true := (s7.room (by omega) (by omega) 6).trans k6; have t7 : rowAt w7 qt = _ := (s7.row (by omega) (by omega)).trans t6; have kt7 : roomAt w7 qt 4 = true := (s7.room (by omega) (by omega) 4).trans kt6; have m7 : roomAt w7 w.heap.size 6 = true := (s7.room (by omega) (by omega) 6).trans m6; have ct7 := rowAt_cell t7; have lx7 : qx < w7.heap.size := (by omega); have lt7 : qt < w7.heap.size := (by omega); have nx7 : qx ≠ w7.heap.size := (by omega); have nt7 : qt ≠ w7.heap.size := (by omega); have B7 : Hid (Ds w w7 b g cap L (j + 1) (o : Int) 0 0 ∧ NdAt w7 (fun x => w.heap.size + 1 ≤ x ∧ x ≠ qx ∧ x ≠ qt) c l) := ⟨B6.out.1.next s7, B6.out.2.stepP (b := b) (fun x hx => by omega) s7.gb⟩)
              | (go_at_call 130; have hx := B7; clear hx; refine (name_t _ b g cap L (j + 1) _ 0 B7.out.1.rd NK.out.1 NK.out.2).mono ?_; rintro e w8 ⟨rfl, s8⟩; have hs8 := s8.size; have r8 : rowAt w8 qx = some c.cells := (s8.row (by omega) (by omega)).trans r7; have k8 : roomAt w8 qx 6 = true := (s8.room (by omega) (by omega) 6).trans k7; have t8 : rowAt w8 qt = _ := (s8.row (by omega) (by omega)).trans t7; have kt8 : roomAt w8 qt 4 = true := (s8.room (by omega) (by omega) 4).trans kt7; have m8 : roomAt w8 w.heap.size 6 = true := (s8.room (by omega) (by omega) 6).trans m7; have ct8 := rowAt_cell t8; have lx8 : qx < w8.heap.size := (by omega); have lx81 : qx < w8.heap.size + 1 := (by omega); have lt8 : qt < w8.heap.size := (by omega); have nx8 : qx ≠ w8.heap.size := (by omega); have nx81 : qx ≠ w8.heap.size + 1 := (by omega); have nt8 : qt ≠ w8.heap.size := (by omega); have nt81 : qt ≠ w8.heap.size + 1 := (by omega); have lt81 : qt < w8.heap.size + 1 := (by omega); have B8 : Hid (Ds w w8 b g cap L (j + 1 + 1) (o : Int) 0 0 ∧ NdAt w8 (fun x => w.heap.size + 1 ≤ x ∧ x ≠ qx ∧ x ≠ qt) c l) := ⟨B7.out.1.next s8, B7.out.2.stepP (b := b) (fun x hx => by omega) s8.gb⟩))
            have LN : Lde w (((putRow w8 qx (⟨32, bs (hd (L.drop (j + 1))).t, 0, false, some ⟨w8.heap.size + 1, 0, none⟩, 1, 1, ((hd (L.drop j)).p : Int)⟩ : Nc).cells).alloc (.cells (hd (L.drop (j + 1))).tk.cells 38)).alloc (.cells c.cells 25)) b g cap L i o qt qx R f (j + 1 + 1) := by
              have i8 := s8.rd.il
              have nqt : qt ≠ qx := fun e => hqq e.symm
              have n0x : w.heap.size ≠ qx := by omega
              have l08 : w.heap.size < w8.heap.size := by omega
              have fu : (L.length - (j + 1 + 1)) * 40 + 4 ≤ f2 := fuel2 hfu hj1
              have hf2 : f2 ≤ f := by omega
              have hij2 : i < j + 1 + 1 := by omega
              have x1 : w.heap.size ≤ qx := by omega
              have x2 : w.heap.size + 1 ≤ w8.heap.size + 1 := by omega
              have x3 : w8.heap.size + 1 ≠ qx := by omega
              have x4 : w8.heap.size + 1 ≠ qt := by omega
              exact ⟨_, (⟨32, bs (hd (L.drop (j + 1))).t, 0, false, some ⟨w8.heap.size + 1, 0, none⟩, 1, 1, ((hd (L.drop j)).p : Int)⟩ : Nc), _, f2, hf2, HR.out, fu, hij2, da_self k8 lx8, da_room k8 lx8, row_of2 (ixkeep nqt lt8) t8, room_of2 (ixkeep nqt lt8) kt8, room_of2 (ixkeep n0x l08) m8, ((B8.out.1.old bl gl qx x1 _).alloc _).alloc _, one_made (blk := w8.heap.size + 1) 32 (hd (L.drop (j + 1))).t (hd (L.drop j)).p ⟨x2, x3, x4⟩ da_new (B8.out.2.keep (fun x hx _ => hx) da_size (fun x hx hl => ixkeep hx.2.1 hl))⟩
            go_roundg g'
            case measure => omega
            case rel => exact ⟨j + 1 + 1, .inl ⟨LN, by omega⟩⟩
          · rw [if_neg hn, Rs.bind_bad, Rs.bind_bad] at hrun
            have HR : Hid (R = .bad (hd (L.drop (j + 1))).p 90) := hrun.symm
            have NK : Hid (kdB 0 (hd (L.drop (j + 1))) 1 = false) := by show kdB _ _ _ = _; rw [kd_live]; simpa using hn
            clear hrun hn hk0 h1
            go_wp2_with (first
              | (go_at_call 76; have hx := hb5; clear hx; refine (SA.out _ [40] (HN.out _ hb5).2.2.2.2.2.1.rd).mono ?_; rintro e w6 ⟨rfl, hb6'⟩; have hb6 : Below (putRow w2 qt (hd (L.drop j)).tk.cells).heap.size (putRow w2 qt (hd (L.drop j)).tk.cells) w6 := (hb5.trans (hb6'.mono (hb5.size))); obtain ⟨r6, k6, t6, kt6, m6, S6, nd6⟩ := HN.out w6 hb6; have hs6 := hb6.size; rw [size_put] at hs6; have ct6 := rowAt_cell t6; have B6 : Hid (Ds w w6 b g cap L j (o : Int) 0 0 ∧ NdAt w6 (fun x => w.heap.size + 1 ≤ x ∧ x ≠ qx ∧ x ≠ qt) c l) := ⟨S6, nd6⟩; clear S6 nd6)
              | (go_at_call 76; have hx := hb4; clear hx; refine (SA.out _ [94] (HN.out _ hb4).2.2.2.2.2.1.rd).mono ?_; rintro e w5 ⟨rfl, hb5'⟩; have hb5 : Below (putRow w2 qt (hd (L.drop j)).tk.cells).heap.size (putRow w2 qt (hd (L.drop j)).tk.cells) w5 := (hb4.trans (hb5'.mono (hb4.size))))
              | (go_at_call 76; have hx := hb3; clear hx; refine (SA.out _ [91] (HN.out _ hb3).2.2.2.2.2.1.rd).mono ?_; rintro e w4 ⟨rfl, hb4'⟩; have hb4 : Below (putRow w2 qt (hd (L.drop j)).tk.cells).heap.size (putRow w2 qt (hd (L.drop j)).tk.cells) w4 := (hb3.trans (hb4'.mono (hb3.size))))
              | (go_at_call 76; refine (SA.out _ [46] (HN.out _ (Below.refl _ _)).2.2.2.2.2.1.rd).mono ?_; rintro e w3 ⟨rfl, hb3'⟩; have hb3 : Below (putRow w2 qt (hd (L.drop j)).tk.cells).heap.size (putRow w2 qt (hd (L.drop j)).tk.cells) w3 := hb3')
              | (go_at_call 39; refine (peek_d _ b g cap L j _ _ _ A0.out.1.rd).mono ?_; rintro e w2 ⟨rfl, hb2⟩; have hs2 := hb2.size; have kt2 : roomAt w2 qt 4 = true := (roomAt_below hb2 _ _ (by omega)).trans kt0; have HN : Hid (∀ W, Below (putRow w2 qt (hd (L.drop j)).tk.cells).heap.size (putRow w2 qt (hd (L.drop j)).tk.cells) W → rowAt W qx = some c.cells ∧ roomAt W qx 6 = true ∧ rowAt W qt = some (hd (L.drop j)).tk.cells ∧ roomAt W qt 4 = true ∧ roomAt W w.heap.size 6 = true ∧ Ds w W b g cap L j (o : Int) 0 0 ∧ NdAt W (fun x => w.heap.size + 1 ≤ x ∧ x ≠ qx ∧ x ≠ qt) c l) := (fun W hW => desfacts r0 k0 kt0 m0 A0.out.1 A0.out.2 hb2 hW hqx hqt hqq hq0 bl gl (by omega) (by omega) (by omega)))
              | (go_at_call 36; refine (next_d _ b g cap L j _ _ _ B6.out.1.rd HK.out).mono ?_; rintro e w7 ⟨rfl, s7⟩; have hs7 := s7.size; have r7 : rowAt w7 qx = some c.cells := (s7.row (by omega) (by omega)).trans r6; have k7 : roomAt w7 qx 6 = true := (s7.room (by omega) (by omega) 6).trans k6; have t7 : rowAt w7 qt = _ := (s7.row (by omega) (by omega)).trans t6; have kt7 : roomAt w7 qt 4 = true := (s7.room (by omega) (by omega) 4).trans kt6; have m7 : roomAt w7 w.heap.size 6 = true := (s7.room (by omega) (by omega) 6).trans m6; have ct7 := rowAt_cell t7; have lx7 : qx < w7.heap.size := (by omega); have lt7 : qt < w7.heap.size := (by omega); have nx7 : qx ≠ w7.heap.size := (by omega); have nt7 : qt ≠ w7.heap.size := (by omega); have B7 : Hid (Ds w w7 b g cap L (j + 1) (o : Int) 0 0 ∧ NdAt w7 (fun x => w.heap.size + 1 ≤ x ∧ x ≠ qx ∧ x ≠ qt) c l) := ⟨B6.out.1.next s7, B6.out.2.stepP (b := b) (fun x hx => by omega) s7.gb⟩)
              | (go_at_call 130; have hx := B7; clear hx; refine (name_f _ b g cap L (j + 1) _ 0 B7.out.1.rd NK.out).mono ?_; rintro e w8 ⟨rfl, s8⟩; have hs8 := s8.size; have r8 : rowAt w8 qx = some c.cells := (s8.row (by omega) (by omega)).trans r7; have k8 : roomAt w8 qx 6 = true := (s8.room (by omega) (by omega) 6).trans k7; have t8 : rowAt w8 qt = _ := (s8.row (by omega) (by omega)).trans t7; have kt8 : roomAt w8 qt 4 = true := (s8.room (by omega) (by omega) 4).trans kt7; have m8 : roomAt w8 w.heap.size 6 = true := (s8.room (by omega) (by omega) 6).trans m7; have ct8 := rowAt_cell t8; have lx8 : qx < w8.heap.size := (by omega); have lx81 : qx < w8.heap.size + 1 := (by omega); have lt8 : qt < w8.heap.size := (by omega); have nx8 : qx ≠ w8.heap.size := (by omega); have nx81 : qx ≠ w8.heap.size + 1 := (by omega); have nt8 : qt ≠ w8.heap.size := (by omega); have nt81 : qt ≠ w8.heap.size + 1 := (by omega); have lt81 : qt < w8.heap.size + 1 := (by omega); have B8 : Hid (Ds w w8 b g cap L (j + 1) (o : Int) 90 ((hd (L.drop (j + 1))).p : Int) ∧ NdAt w8 (fun x => w.heap.size + 1 ≤ x ∧ x ≠ qx ∧ x ≠ qt) c l) := ⟨B7.out.1.next s8, B7.out.2.stepP (b := b) (fun x hx => by omega) s8.gb⟩))
            have LN : Ldx w (((putRow w8 qx (⟨32, ⟨#[]⟩, 0, false, some ⟨w8.heap.size + 1, 0, none⟩, 1, 1, ((hd (L.drop j)).p : Int)⟩ : Nc).cells).alloc (.cells (Tk.mk 0 ⟨#[]⟩ 0 0).cells 38)).alloc (.cells c.cells 25)) b g cap L qx R := ⟨(⟨32, ⟨#[]⟩, 0, false, some ⟨w8.heap.size + 1, 0, none⟩, 1, 1, ((hd (L.drop j)).p : Int)⟩ : Nc), j + 1, _, _, 90, by decide, HR.out, (rowAt_old _ _ _ (by simp [size_put]; omega)).trans ((rowAt_old _ _ _ (by rw [size_put]; omega)).trans (rowNd_put _ _ _ k8)), (roomAt_old _ _ _ _ (by simp [size_put]; omega)).trans ((roomAt_old _ _ _ _ (by rw [size_put]; omega)).trans (room_keep k8 _ rfl)), (roomAt_old _ _ _ _ (by simp [size_put]; omega)).trans ((roomAt_old _ _ _ _ (by rw [size_put]; omega)).trans ((room_far _ _ _ _ _ (by omega)).trans m8)), ((B8.out.1.old bl gl _ (by omega) _).alloc _).alloc _⟩
            go_roundg g'
            case measure => omega
            case rel => exact ⟨0, .inr LN⟩
        · have d1 : sgB 0 (hd (L.drop j)) [46] = false := by rw [w1']; simpa using h1
          by_cases h2 : wd (L.drop j) = [91]
          · have d2 : sgB 0 (hd (L.drop j)) [91] = true := by rw [w2']; simpa using h2
            have d3 : sgB 0 (hd (L.drop j)) [94] = false := by rw [w3', h2]; decide
            have hk0 : (hd (L.drop j)).k ≠ 0 := wd_kind (by rw [h2]; decide)
            clear w1' w2' w3' w4'
            rw [if_neg h1, if_pos h2] at hrun
            have FC : Hid (∀ X, DAt X b g cap L j (o : Int) 0 0 → qx < X.heap.size → qt < X.heap.size → NdAt X (fun x => w.heap.size + 1 ≤ x ∧ x ≠ qx ∧ x ≠ qt) c l → Calls Tryd.prog 131 #[.pointer (some ⟨b, 0, none⟩), .agg c.cells, .int .i64 (hd (L.drop j)).tk.p] X (PostDP X b g cap L j o (fun x => w.heap.size + 1 ≤ x ∧ x ≠ qx ∧ x ≠ qt) (idxR f2 o l (L.drop j)))) := fun X hX hq hw hn => by have := dindex_any f3 (fun f' h' => HE.out f' (by omega)) X b g cap L j o hX ho HOK.out hk0 (by omega) c (fun x => w.heap.size + 1 ≤ x ∧ x ≠ qx ∧ x ≠ qt) (fun x hx => by omega) (fun x hx => by have := hX.bl; omega) l hn; rw [hf3]; exact this
            generalize idxR f2 o l (L.drop j) = Rb at FC hrun
            clear hk0 h2
            cases Rb with
            | bad p er =>
              rw [Rs.bind_bad] at hrun
              have HR : Hid (R = .bad p er) := hrun.symm
              clear hrun
              go_wp2_with (first
                | (go_at_call 76; have hx := hb5; clear hx; refine (SA.out _ [40] (HN.out _ hb5).2.2.2.2.2.1.rd).mono ?_; rintro e w6 ⟨rfl, hb6'⟩; have hb6 : Below (putRow w2 qt (hd (L.drop j)).tk.cells).heap.size (putRow w2 qt (hd (L.drop j)).tk.cells) w6 := (hb5.trans (hb6'.mono (hb5.size))); obtain ⟨r6, k6, t6, kt6, m6, S6, nd6⟩ := HN.out w6 hb6; have hs6 := hb6.size; rw [size_put] at hs6; have ct6 := rowAt_cell t6; have B6 : Hid (Ds w w6 b g cap L j (o : Int) 0 0 ∧ NdAt w6 (fun x => w.heap.size + 1 ≤ x ∧ x ≠ qx ∧ x ≠ qt) c l) := ⟨S6, nd6⟩; clear S6 nd6)
                | (go_at_call 76; have hx := hb4; clear hx; refine (SA.out _ [94] (HN.out _ hb4).2.2.2.2.2.1.rd).mono ?_; rintro e w5 ⟨rfl, hb5'⟩; have hb5 : Below (putRow w2 qt (hd (L.drop j)).tk.cells).heap.size (putRow w2 qt (hd (L.drop j)).tk.cells) w5 := (hb4.trans (hb5'.mono (hb4.size))))
                | (go_at_call 76; have hx := hb3; clear hx; refine (SA.out _ [91] (HN.out _ hb3).2.2.2.2.2.1.rd).mono ?_; rintro e w4 ⟨rfl, hb4'⟩; have hb4 : Below (putRow w2 qt (hd (L.drop j)).tk.cells).heap.size (putRow w2 qt (hd (L.drop j)).tk.cells) w4 := (hb3.trans (hb4'.mono (hb3.size))))
                | (go_at_call 76; refine (SA.out _ [46] (HN.out _ (Below.refl _ _)).2.2.2.2.2.1.rd).mono ?_; rintro e w3 ⟨rfl, hb3'⟩; have hb3 : Below (putRow w2 qt (hd (L.drop j)).tk.cells).heap.size (putRow w2 qt (hd (L.drop j)).tk.cells) w3 := hb3')
                | (go_at_call 39; refine (peek_d _ b g cap L j _ _ _ A0.out.1.rd).mono ?_; rintro e w2 ⟨rfl, hb2⟩; have hs2 := hb2.size; have kt2 : roomAt w2 qt 4 = true := (roomAt_below hb2 _ _ (by omega)).trans kt0; have HN : Hid (∀ W, Below (putRow w2 qt (hd (L.drop j)).tk.cells).heap.size (putRow w2 qt (hd (L.drop j)).tk.cells) W → rowAt W qx = some c.cells ∧ roomAt W qx 6 = true ∧ rowAt W qt = some (hd (L.drop j)).tk.cells ∧ roomAt W qt 4 = true ∧ roomAt W w.heap.size 6 = true ∧ Ds w W b g cap L j (o : Int) 0 0 ∧ NdAt W (fun x => w.heap.size + 1 ≤ x ∧ x ≠ qx ∧ x ≠ qt) c l) := (fun W hW => desfacts r0 k0 kt0 m0 A0.out.1 A0.out.2 hb2 hW hqx hqt hqq hq0 bl gl (by omega) (by omega) (by omega)))
                | (go_at_call 131; refine (FC.out w6 B6.out.1.rd (by omega) (by omega) B6.out.2).mono ?_; rintro e w7 ⟨c7, i7, o7, rfl, he7, s7⟩; have hs7 := s7.size; have k7 : roomAt w7 qx 6 = true := (s7.room (by omega) (by omega) 6).trans k6; have m7 : roomAt w7 w.heap.size 6 = true := (s7.room (by omega) (by omega) 6).trans m6))
              have LN : Ldx w (putRow w7 qx c7.cells) b g cap L qx R := ⟨c7, i7, o7, p, er, he7, HR.out, rowNd_put _ _ _ k7, room_keep k7 _ rfl, (room_far _ _ _ _ _ (by omega)).trans m7, (B6.out.1.next s7).old bl gl _ (by omega) _⟩
              go_roundg g'
              case measure => omega
              case rel => exact ⟨0, .inr LN⟩
            | ok n t =>
              rw [Rs.bind_ok] at hrun
              have HR : Hid (run f2 (.desigL n) o t = R) := hrun
              clear hrun
              go_wp2_with (first
                | (go_at_call 76; have hx := hb5; clear hx; refine (SA.out _ [40] (HN.out _ hb5).2.2.2.2.2.1.rd).mono ?_; rintro e w6 ⟨rfl, hb6'⟩; have hb6 : Below (putRow w2 qt (hd (L.drop j)).tk.cells).heap.size (putRow w2 qt (hd (L.drop j)).tk.cells) w6 := (hb5.trans (hb6'.mono (hb5.size))); obtain ⟨r6, k6, t6, kt6, m6, S6, nd6⟩ := HN.out w6 hb6; have hs6 := hb6.size; rw [size_put] at hs6; have ct6 := rowAt_cell t6; have B6 : Hid (Ds w w6 b g cap L j (o : Int) 0 0 ∧ NdAt w6 (fun x => w.heap.size + 1 ≤ x ∧ x ≠ qx ∧ x ≠ qt) c l) := ⟨S6, nd6⟩; clear S6 nd6)
                | (go_at_call 76; have hx := hb4; clear hx; refine (SA.out _ [94] (HN.out _ hb4).2.2.2.2.2.1.rd).mono ?_; rintro e w5 ⟨rfl, hb5'⟩; have hb5 : Below (putRow w2 qt (hd (L.drop j)).tk.cells).heap.size (putRow w2 qt (hd (L.drop j)).tk.cells) w5 := (hb4.trans (hb5'.mono (hb4.size))))
                | (go_at_call 76; have hx := hb3; clear hx; refine (SA.out _ [91] (HN.out _ hb3).2.2.2.2.2.1.rd).mono ?_; rintro e w4 ⟨rfl, hb4'⟩; have hb4 : Below (putRow w2 qt (hd (L.drop j)).tk.cells).heap.size (putRow w2 qt (hd (L.drop j)).tk.cells) w4 := (hb3.trans (hb4'.mono (hb3.size))))
                | (go_at_call 76; refine (SA.out _ [46] (HN.out _ (Below.refl _ _)).2.2.2.2.2.1.rd).mono ?_; rintro e w3 ⟨rfl, hb3'⟩; have hb3 : Below (putRow w2 qt (hd (L.drop j)).tk.cells).heap.size (putRow w2 qt (hd (L.drop j)).tk.cells) w3 := hb3')
                | (go_at_call 39; refine (peek_d _ b g cap L j _ _ _ A0.out.1.rd).mono ?_; rintro e w2 ⟨rfl, hb2⟩; have hs2 := hb2.size; have kt2 : roomAt w2 qt 4 = true := (roomAt_below hb2 _ _ (by omega)).trans kt0; have HN : Hid (∀ W, Below (putRow w2 qt (hd (L.drop j)).tk.cells).heap.size (putRow w2 qt (hd (L.drop j)).tk.cells) W → rowAt W qx = some c.cells ∧ roomAt W qx 6 = true ∧ rowAt W qt = some (hd (L.drop j)).tk.cells ∧ roomAt W qt 4 = true ∧ roomAt W w.heap.size 6 = true ∧ Ds w W b g cap L j (o : Int) 0 0 ∧ NdAt W (fun x => w.heap.size + 1 ≤ x ∧ x ≠ qx ∧ x ≠ qt) c l) := (fun W hW => desfacts r0 k0 kt0 m0 A0.out.1 A0.out.2 hb2 hW hqx hqt hqq hq0 bl gl (by omega) (by omega) (by omega)))
                | (go_at_call 131; refine (FC.out w6 B6.out.1.rd (by omega) (by omega) B6.out.2).mono ?_; rintro e w7 ⟨c7, i7, rfl, ht7, hi7, s7, nd7⟩; have hs7 := s7.size; have k7 : roomAt w7 qx 6 = true := (s7.room (by omega) (by omega) 6).trans k6; have t7 : rowAt w7 qt = _ := (s7.row (by omega) (by omega)).trans t6; have kt7 : roomAt w7 qt 4 = true := (s7.room (by omega) (by omega) 4).trans kt6; have m7 : roomAt w7 w.heap.size 6 = true := (s7.room (by omega) (by omega) 6).trans m6))
              have LN : Lde w (putRow w7 qx c7.cells) b g cap L i o qt qx R f i7 :=
                ⟨n, c7, _, f2, by omega, by rw [← ht7]; exact HR.out, by omega, by omega, rowNd_put _ _ _ k7, room_keep k7 _ rfl, (row_far _ _ _ _ (by omega)).trans t7, (room_far _ _ _ _ _ (by omega)).trans kt7, (room_far _ _ _ _ _ (by omega)).trans m7, (B6.out.1.next s7).old bl gl _ (by omega) _, nd7.keep (fun x hx _ => hx) (by rw [size_put]; exact Nat.le_refl _) (fun x hx _ => put_far _ _ _ _ hx.2.1)⟩
              go_roundg g'
              case measure => omega
              case rel => exact ⟨i7, .inl ⟨LN, by omega⟩⟩
          · have d2 : sgB 0 (hd (L.drop j)) [91] = false := by rw [w2']; simpa using h2
            by_cases h3 : wd (L.drop j) = [94]
            · have d3 : sgB 0 (hd (L.drop j)) [94] = true := by rw [w3']; simpa using h3
              have hk0 : (hd (L.drop j)).k ≠ 0 := wd_kind (by rw [h3]; decide)
              clear w1' w2' w3' w4'
              rw [if_neg h1, if_neg h2, if_pos h3, List.tail_drop] at hrun
              have HR : Hid (run f2 (.desigL (.mk 34 [] 0 false [l] (hd (L.drop j)).p)) o (L.drop (j + 1)) = R) := hrun
              have HK : Hid ((hd (L.drop j)).k ≠ 0) := hk0
              have hj1 : j + 1 < L.length := A0.out.1.rd.last j A0.out.1.rd.il (by rw [← A0.out.1.rd.hd]; exact hk0)
              clear hrun hk0 h3
              go_wp2_with (first
                | (go_at_call 76; have hx := hb5; clear hx; refine (SA.out _ [40] (HN.out _ hb5).2.2.2.2.2.1.rd).mono ?_; rintro e w6 ⟨rfl, hb6'⟩; have hb6 : Below (putRow w2 qt (hd (L.drop j)).tk.cells).heap.size (putRow w2 qt (hd (L.drop j)).tk.cells) w6 := (hb5.trans (hb6'.mono (hb5.size))); obtain ⟨r6, k6, t6, kt6, m6, S6, nd6⟩ := HN.out w6 hb6; have hs6 := hb6.size; rw [size_put] at hs6; have ct6 := rowAt_cell t6; have B6 : Hid (Ds w w6 b g cap L j (o : Int) 0 0 ∧ NdAt w6 (fun x => w.heap.size + 1 ≤ x ∧ x ≠ qx ∧ x ≠ qt) c l) := ⟨S6, nd6⟩; clear S6 nd6)
                | (go_at_call 76; have hx := hb4; clear hx; refine (SA.out _ [94] (HN.out _ hb4).2.2.2.2.2.1.rd).mono ?_; rintro e w5 ⟨rfl, hb5'⟩; have hb5 : Below (putRow w2 qt (hd (L.drop j)).tk.cells).heap.size (putRow w2 qt (hd (L.drop j)).tk.cells) w5 := (hb4.trans (hb5'.mono (hb4.size))))
                | (go_at_call 76; have hx := hb3; clear hx; refine (SA.out _ [91] (HN.out _ hb3).2.2.2.2.2.1.rd).mono ?_; rintro e w4 ⟨rfl, hb4'⟩; have hb4 : Below (putRow w2 qt (hd (L.drop j)).tk.cells).heap.size (putRow w2 qt (hd (L.drop j)).tk.cells) w4 := (hb3.trans (hb4'.mono (hb3.size))))
                | (go_at_call 76; refine (SA.out _ [46] (HN.out _ (Below.refl _ _)).2.2.2.2.2.1.rd).mono ?_; rintro e w3 ⟨rfl, hb3'⟩; have hb3 : Below (putRow w2 qt (hd (L.drop j)).tk.cells).heap.size (putRow w2 qt (hd (L.drop j)).tk.cells) w3 := hb3')
                | (go_at_call 39; refine (peek_d _ b g cap L j _ _ _ A0.out.1.rd).mono ?_; rintro e w2 ⟨rfl, hb2⟩; have hs2 := hb2.size; have kt2 : roomAt w2 qt 4 = true := (roomAt_below hb2 _ _ (by omega)).trans kt0; have HN : Hid (∀ W, Below (putRow w2 qt (hd (L.drop j)).tk.cells).heap.size (putRow w2 qt (hd (L.drop j)).tk.cells) W → rowAt W qx = some c.cells ∧ roomAt W qx 6 = true ∧ rowAt W qt = some (hd (L.drop j)).tk.cells ∧ roomAt W qt 4 = true ∧ roomAt W w.heap.size 6 = true ∧ Ds w W b g cap L j (o : Int) 0 0 ∧ NdAt W (fun x => w.heap.size + 1 ≤ x ∧ x ≠ qx ∧ x ≠ qt) c l) := (fun W hW => desfacts r0 k0 kt0 m0 A0.out.1 A0.out.2 hb2 hW hqx hqt hqq hq0 bl gl (by omega) (by omega) (by omega)))
                | (go_at_call 36; refine (next_d _ b g cap L j _ _ _ B6.out.1.rd HK.out).mono ?_; rintro e w7 ⟨rfl, s7⟩; have hs7 := s7.size; have r7 : rowAt w7 qx = some c.cells := (s7.row (by omega) (by omega)).trans r6; have k7 : roomAt w7 qx 6 = true := (s7.room (by omega) (by omega) 6).trans k6; have t7 : rowAt w7 qt = _ := (s7.row (by omega) (by omega)).trans t6; have kt7 : roomAt w7 qt 4 = true := (s7.room (by omega) (by omega) 4).trans kt6; have m7 : roomAt w7 w.heap.size 6 = true := (s7.room (by omega) (by omega) 6).trans m6; have ct7 := rowAt_cell t7; have lx7 : qx < w7.heap.size := (by omega); have lt7 : qt < w7.heap.size := (by omega); have nx7 : qx ≠ w7.heap.size := (by omega); have nt7 : qt ≠ w7.heap.size := (by omega); have B7 : Hid (Ds w w7 b g cap L (j + 1) (o : Int) 0 0 ∧ NdAt w7 (fun x => w.heap.size + 1 ≤ x ∧ x ≠ qx ∧ x ≠ qt) c l) := ⟨B6.out.1.next s7, B6.out.2.stepP (b := b) (fun x hx => by omega) s7.gb⟩))
              have LN : Lde w ((putRow w7 qx (⟨34, ⟨#[]⟩, 0, false, some ⟨w7.heap.size, 0, none⟩, 1, 1, ((hd (L.drop j)).p : Int)⟩ : Nc).cells).alloc (.cells c.cells 25)) b g cap L i o qt qx R f (j + 1) := by
                refine ⟨_, (⟨34, ⟨#[]⟩, 0, false, some ⟨w7.heap.size, 0, none⟩, 1, 1, ((hd (L.drop j)).p : Int)⟩ : Nc), _, f2, by omega, HR.out, by omega, by omega, (rowAt_old _ _ _ (by rw [size_put]; omega)).trans (rowNd_put _ _ _ k7), (roomAt_old _ _ _ _ (by rw [size_put]; omega)).trans (room_keep k7 _ rfl), (rowAt_old _ _ _ (by rw [size_put]; omega)).trans ((row_far _ _ _ _ (by omega)).trans t7), (roomAt_old _ _ _ _ (by rw [size_put]; omega)).trans ((room_far _ _ _ _ _ (by omega)).trans kt7), (roomAt_old _ _ _ _ (by rw [size_put]; omega)).trans ((room_far _ _ _ _ _ (by omega)).trans m7), (B7.out.1.old bl gl _ (by omega) _).alloc _, ?_⟩
                exact one_made (blk := w7.heap.size) 34 [] _ ⟨by omega, by omega, by omega⟩ (heap_new' _ _ (by simp [size_put])) (B7.out.2.keep (fun x hx _ => hx) (by simp [size_put]) (fun x hx hl => (((Below.refl _ _).alloc (Nat.le_refl _) _).block x (by rw [size_put]; exact hl)).trans (put_far _ _ _ _ hx.2.1)))
              go_roundg g'
              case measure => omega
              case rel => exact ⟨j + 1, .inl ⟨LN, by omega⟩⟩
            · have d3 : sgB 0 (hd (L.drop j)) [94] = false := by rw [w3']; simpa using h3
              by_cases h4 : wd (L.drop j) = [40]
              · have d4 : sgB 0 (hd (L.drop j)) [40] = true := by rw [w4']; simpa using h4
                have hk0 : (hd (L.drop j)).k ≠ 0 := wd_kind (by rw [h4]; decide)
                clear w1' w2' w3' w4'
                rw [if_neg h1, if_neg h2, if_neg h3, if_pos h4] at hrun
                have FC : Hid (∀ X, DAt X b g cap L j (o : Int) 0 0 → qx < X.heap.size → qt < X.heap.size → NdAt X (fun x => w.heap.size + 1 ≤ x ∧ x ≠ qx ∧ x ≠ qt) c l → Calls Tryd.prog 132 #[.pointer (some ⟨b, 0, none⟩), .agg c.cells, .int .i64 (hd (L.drop j)).tk.p] X (PostDP X b g cap L j o (fun x => w.heap.size + 1 ≤ x ∧ x ≠ qx ∧ x ≠ qt) (calR f2 o l (L.drop j)))) := fun X hX hq hw hn => by have := dcall_any f3 (fun f' h' => HE.out f' (by omega)) X b g cap L j o hX ho HOK.out hk0 (by omega) c (fun x => w.heap.size + 1 ≤ x ∧ x ≠ qx ∧ x ≠ qt) (fun x hx => by omega) (fun x hx => by have := hX.bl; omega) l hn; rw [hf3]; exact this
                generalize calR f2 o l (L.drop j) = Rb at FC hrun
                clear hk0 h4
                cases Rb with
                | bad p er =>
                  rw [Rs.bind_bad] at hrun
                  have HR : Hid (R = .bad p er) := hrun.symm
                  clear hrun
                  go_wp2_with (first
                    | (go_at_call 76; have hx := hb5; clear hx; refine (SA.out _ [40] (HN.out _ hb5).2.2.2.2.2.1.rd).mono ?_; rintro e w6 ⟨rfl, hb6'⟩; have hb6 : Below (putRow w2 qt (hd (L.drop j)).tk.cells).heap.size (putRow w2 qt (hd (L.drop j)).tk.cells) w6 := (hb5.trans (hb6'.mono (hb5.size))); obtain ⟨r6, k6, t6, kt6, m6, S6, nd6⟩ := HN.out w6 hb6; have hs6 := hb6.size; rw [size_put] at hs6; have ct6 := rowAt_cell t6; have B6 : Hid (Ds w w6 b g cap L j (o : Int) 0 0 ∧ NdAt w6 (fun x => w.heap.size + 1 ≤ x ∧ x ≠ qx ∧ x ≠ qt) c l) := ⟨S6, nd6⟩; clear S6 nd6)
                    | (go_at_call 76; have hx := hb4; clear hx; refine (SA.out _ [94] (HN.out _ hb4).2.2.2.2.2.1.rd).mono ?_; rintro e w5 ⟨rfl, hb5'⟩; have hb5 : Below (putRow w2 qt (hd (L.drop j)).tk.cells).heap.size (putRow w2 qt (hd (L.drop j)).tk.cells) w5 := (hb4.trans (hb5'.mono (hb4.size))))
                    | (go_at_call 76; have hx := hb3; clear hx; refine (SA.out _ [91] (HN.out _ hb3).2.2.2.2.2.1.rd).mono ?_; rintro e w4 ⟨rfl, hb4'⟩; have hb4 : Below (putRow w2 qt (hd (L.drop j)).tk.cells).heap.size (putRow w2 qt (hd (L.drop j)).tk.cells) w4 := (hb3.trans (hb4'.mono (hb3.size))))
                    | (go_at_call 76; refine (SA.out _ [46] (HN.out _ (Below.refl _ _)).2.2.2.2.2.1.rd).mono ?_; rintro e w3 ⟨rfl, hb3'⟩; have hb3 : Below (putRow w2 qt (hd (L.drop j)).tk.cells).heap.size (putRow w2 qt (hd (L.drop j)).tk.cells) w3 := hb3')
                    | (go_at_call 39; refine (peek_d _ b g cap L j _ _ _ A0.out.1.rd).mono ?_; rintro e w2 ⟨rfl, hb2⟩; have hs2 := hb2.size; have kt2 : roomAt w2 qt 4 = true := (roomAt_below hb2 _ _ (by omega)).trans kt0; have HN : Hid (∀ W, Below (putRow w2 qt (hd (L.drop j)).tk.cells).heap.size (putRow w2 qt (hd (L.drop j)).tk.cells) W → rowAt W qx = some c.cells ∧ roomAt W qx 6 = true ∧ rowAt W qt = some (hd (L.drop j)).tk.cells ∧ roomAt W qt 4 = true ∧ roomAt W w.heap.size 6 = true ∧ Ds w W b g cap L j (o : Int) 0 0 ∧ NdAt W (fun x => w.heap.size + 1 ≤ x ∧ x ≠ qx ∧ x ≠ qt) c l) := (fun W hW => desfacts r0 k0 kt0 m0 A0.out.1 A0.out.2 hb2 hW hqx hqt hqq hq0 bl gl (by omega) (by omega) (by omega)))
                    | (go_at_call 132; refine (FC.out w6 B6.out.1.rd (by omega) (by omega) B6.out.2).mono ?_; rintro e w7 ⟨c7, i7, o7, rfl, he7, s7⟩; have hs7 := s7.size; have k7 : roomAt w7 qx 6 = true := (s7.room (by omega) (by omega) 6).trans k6; have m7 : roomAt w7 w.heap.size 6 = true := (s7.room (by omega) (by omega) 6).trans m6))
                  have LN : Ldx w (putRow w7 qx c7.cells) b g cap L qx R := ⟨c7, i7, o7, p, er, he7, HR.out, rowNd_put _ _ _ k7, room_keep k7 _ rfl, (room_far _ _ _ _ _ (by omega)).trans m7, (B6.out.1.next s7).old bl gl _ (by omega) _⟩
                  go_roundg g'
                  case measure => omega
                  case rel => exact ⟨0, .inr LN⟩
                | ok n t =>
                  rw [Rs.bind_ok] at hrun
                  have HR : Hid (run f2 (.desigL n) o t = R) := hrun
                  clear hrun
                  go_wp2_with (first
                    | (go_at_call 76; have hx := hb5; clear hx; refine (SA.out _ [40] (HN.out _ hb5).2.2.2.2.2.1.rd).mono ?_; rintro e w6 ⟨rfl, hb6'⟩; have hb6 : Below (putRow w2 qt (hd (L.drop j)).tk.cells).heap.size (putRow w2 qt (hd (L.drop j)).tk.cells) w6 := (hb5.trans (hb6'.mono (hb5.size))); obtain ⟨r6, k6, t6, kt6, m6, S6, nd6⟩ := HN.out w6 hb6; have hs6 := hb6.size; rw [size_put] at hs6; have ct6 := rowAt_cell t6; have B6 : Hid (Ds w w6 b g cap L j (o : Int) 0 0 ∧ NdAt w6 (fun x => w.heap.size + 1 ≤ x ∧ x ≠ qx ∧ x ≠ qt) c l) := ⟨S6, nd6⟩; clear S6 nd6)
                    | (go_at_call 76; have hx := hb4; clear hx; refine (SA.out _ [94] (HN.out _ hb4).2.2.2.2.2.1.rd).mono ?_; rintro e w5 ⟨rfl, hb5'⟩; have hb5 : Below (putRow w2 qt (hd (L.drop j)).tk.cells).heap.size (putRow w2 qt (hd (L.drop j)).tk.cells) w5 := (hb4.trans (hb5'.mono (hb4.size))))
                    | (go_at_call 76; have hx := hb3; clear hx; refine (SA.out _ [91] (HN.out _ hb3).2.2.2.2.2.1.rd).mono ?_; rintro e w4 ⟨rfl, hb4'⟩; have hb4 : Below (putRow w2 qt (hd (L.drop j)).tk.cells).heap.size (putRow w2 qt (hd (L.drop j)).tk.cells) w4 := (hb3.trans (hb4'.mono (hb3.size))))
                    | (go_at_call 76; refine (SA.out _ [46] (HN.out _ (Below.refl _ _)).2.2.2.2.2.1.rd).mono ?_; rintro e w3 ⟨rfl, hb3'⟩; have hb3 : Below (putRow w2 qt (hd (L.drop j)).tk.cells).heap.size (putRow w2 qt (hd (L.drop j)).tk.cells) w3 := hb3')
                    | (go_at_call 39; refine (peek_d _ b g cap L j _ _ _ A0.out.1.rd).mono ?_; rintro e w2 ⟨rfl, hb2⟩; have hs2 := hb2.size; have kt2 : roomAt w2 qt 4 = true := (roomAt_below hb2 _ _ (by omega)).trans kt0; have HN : Hid (∀ W, Below (putRow w2 qt (hd (L.drop j)).tk.cells).heap.size (putRow w2 qt (hd (L.drop j)).tk.cells) W → rowAt W qx = some c.cells ∧ roomAt W qx 6 = true ∧ rowAt W qt = some (hd (L.drop j)).tk.cells ∧ roomAt W qt 4 = true ∧ roomAt W w.heap.size 6 = true ∧ Ds w W b g cap L j (o : Int) 0 0 ∧ NdAt W (fun x => w.heap.size + 1 ≤ x ∧ x ≠ qx ∧ x ≠ qt) c l) := (fun W hW => desfacts r0 k0 kt0 m0 A0.out.1 A0.out.2 hb2 hW hqx hqt hqq hq0 bl gl (by omega) (by omega) (by omega)))
                    | (go_at_call 132; refine (FC.out w6 B6.out.1.rd (by omega) (by omega) B6.out.2).mono ?_; rintro e w7 ⟨c7, i7, rfl, ht7, hi7, s7, nd7⟩; have hs7 := s7.size; have k7 : roomAt w7 qx 6 = true := (s7.room (by omega) (by omega) 6).trans k6; have t7 : rowAt w7 qt = _ := (s7.row (by omega) (by omega)).trans t6; have kt7 : roomAt w7 qt 4 = true := (s7.room (by omega) (by omega) 4).trans kt6; have m7 : roomAt w7 w.heap.size 6 = true := (s7.room (by omega) (by omega) 6).trans m6))
                  have LN : Lde w (putRow w7 qx c7.cells) b g cap L i o qt qx R f i7 :=
                    ⟨n, c7, _, f2, by omega, by rw [← ht7]; exact HR.out, by omega, by omega, rowNd_put _ _ _ k7, room_keep k7 _ rfl, (row_far _ _ _ _ (by omega)).trans t7, (room_far _ _ _ _ _ (by omega)).trans kt7, (room_far _ _ _ _ _ (by omega)).trans m7, (B6.out.1.next s7).old bl gl _ (by omega) _, nd7.keep (fun x hx _ => hx) (by rw [size_put]; exact Nat.le_refl _) (fun x hx _ => put_far _ _ _ _ hx.2.1)⟩
                  go_roundg g'
                  case measure => omega
                  case rel => exact ⟨i7, .inl ⟨LN, by omega⟩⟩
              · have d4 : sgB 0 (hd (L.drop j)) [40] = false := by rw [w4']; simpa using h4
                rw [if_neg h1, if_neg h2, if_neg h3, if_neg h4] at hrun
                have HR : Hid (R = .ok l (L.drop j)) := hrun.symm
                clear hrun w1' w2' w3' w4'
                go_wp2_with (first
                  | (go_at_call 76; have hx := hb5; clear hx; refine (SA.out _ [40] (HN.out _ hb5).2.2.2.2.2.1.rd).mono ?_; rintro e w6 ⟨rfl, hb6'⟩; have hb6 : Below (putRow w2 qt (hd (L.drop j)).tk.cells).heap.size (putRow w2 qt (hd (L.drop j)).tk.cells) w6 := (hb5.trans (hb6'.mono (hb5.size))); obtain ⟨r6, k6, t6, kt6, m6, S6, nd6⟩ := HN.out w6 hb6; have hs6 := hb6.size; rw [size_put] at hs6; have ct6 := rowAt_cell t6; have B6 : Hid (Ds w w6 b g cap L j (o : Int) 0 0 ∧ NdAt w6 (fun x => w.heap.size + 1 ≤ x ∧ x ≠ qx ∧ x ≠ qt) c l) := ⟨S6, nd6⟩; clear S6 nd6)
                  | (go_at_call 76; have hx := hb4; clear hx; refine (SA.out _ [94] (HN.out _ hb4).2.2.2.2.2.1.rd).mono ?_; rintro e w5 ⟨rfl, hb5'⟩; have hb5 : Below (putRow w2 qt (hd (L.drop j)).tk.cells).heap.size (putRow w2 qt (hd (L.drop j)).tk.cells) w5 := (hb4.trans (hb5'.mono (hb4.size))))
                  | (go_at_call 76; have hx := hb3; clear hx; refine (SA.out _ [91] (HN.out _ hb3).2.2.2.2.2.1.rd).mono ?_; rintro e w4 ⟨rfl, hb4'⟩; have hb4 : Below (putRow w2 qt (hd (L.drop j)).tk.cells).heap.size (putRow w2 qt (hd (L.drop j)).tk.cells) w4 := (hb3.trans (hb4'.mono (hb3.size))))
                  | (go_at_call 76; refine (SA.out _ [46] (HN.out _ (Below.refl _ _)).2.2.2.2.2.1.rd).mono ?_; rintro e w3 ⟨rfl, hb3'⟩; have hb3 : Below (putRow w2 qt (hd (L.drop j)).tk.cells).heap.size (putRow w2 qt (hd (L.drop j)).tk.cells) w3 := hb3')
                  | (go_at_call 39; refine (peek_d _ b g cap L j _ _ _ A0.out.1.rd).mono ?_; rintro e w2 ⟨rfl, hb2⟩; have hs2 := hb2.size; have kt2 : roomAt w2 qt 4 = true := (roomAt_below hb2 _ _ (by omega)).trans kt0; have HN : Hid (∀ W, Below (putRow w2 qt (hd (L.drop j)).tk.cells).heap.size (putRow w2 qt (hd (L.drop j)).tk.cells) W → rowAt W qx = some c.cells ∧ roomAt W qx 6 = true ∧ rowAt W qt = some (hd (L.drop j)).tk.cells ∧ roomAt W qt 4 = true ∧ roomAt W w.heap.size 6 = true ∧ Ds w W b g cap L j (o : Int) 0 0 ∧ NdAt W (fun x => w.heap.size + 1 ≤ x ∧ x ≠ qx ∧ x ≠ qt) c l) := (fun W hW => desfacts r0 k0 kt0 m0 A0.out.1 A0.out.2 hb2 hW hqx hqt hqq hq0 bl gl (by omega) (by omega) (by omega))))
                rw [HR.out]
                exact ret_cell1 rfl rfl (loadNd_row (rowNd_put _ _ _ m6)) rfl (fin_d B6.out.1 bl gl hij rfl (B6.out.2.keep (fun x hx _ => hx.1) (Nat.le_refl _) (fun _ _ _ => rfl)))
      · have hsz := SJ.size
        have hql := row_lt r0
        have c30 := SJ.rd.c3
        have l0 := SJ.rd.bl
        have ee : (er == 0) = false := by simpa using he
        have HX : Hid (er ≠ 0 ∧ R = .bad p er ∧ Ds w wr b g cap L i' o' er (p : Int)) := ⟨he, hRb, SJ⟩
        clear SJ LP he hRb
        go_wp2
        rw [HX.out.2.1]
        exact ret_cell1 rfl rfl (loadNd_row (rowNd_put _ _ _ m0)) rfl (bad_d HX.out.2.2 bl gl HX.out.1)
  · rw [if_neg hn, Rs.bind_bad] at hR
    have NM : Hid (∀ X, DAt X b g cap L i (o : Int) 0 0 → Calls Tryd.prog 130 #[.pointer (some ⟨b, 0, none⟩)] X _) := fun X hX => name_f X b g cap L i _ 0 hX (by rw [kd_live]; simpa using hn)
    clear hE hok h hf hn tail
    generalize (hd (L.drop i)).p = p0 at NM hR
    have HR0 : Hid (R = .bad p0 90) := hR
    clear hR
    go_enter Tryd.func120, Tryd.ntmps120
    go_wp2_with (go_at_call 130; refine (NM.out _ (H.out.alloc _)).mono ?_; rintro e w1 ⟨rfl, s1⟩; have l1 := s1.size; simp at l1)
    have S1 := ((((Ds.refl H.out).alloc (.cells ({ k := 0, t := ⟨#[]⟩, n := 0, f := false, a := none, l := 0, m := 0, p := 0 } : Nc).cells 25)).next s1).alloc (.cells (Tk.mk 0 ⟨#[]⟩ 0 0).cells 38)).alloc (.cells (⟨31, ⟨#[]⟩, 0, false, none, 0, 0, 0⟩ : Nc).cells 25)
    have M1 : roomAt ((w1.alloc (.cells (Tk.mk 0 ⟨#[]⟩ 0 0).cells 38)).alloc (.cells (⟨31, ⟨#[]⟩, 0, false, none, 0, 0, 0⟩ : Nc).cells 25)) w.heap.size 6 = true := (roomAt_old _ _ _ _ (by simp; omega)).trans ((roomAt_old _ _ _ _ (by omega)).trans ((s1.room (by simp) (by omega) 6).trans (roomNd_new _ _ _ _ (by simp))))
    have R1 : rowAt ((w1.alloc (.cells (Tk.mk 0 ⟨#[]⟩ 0 0).cells 38)).alloc (.cells (⟨31, ⟨#[]⟩, 0, false, none, 0, 0, 0⟩ : Nc).cells 25)) (w1.heap.size + 1) = some (⟨31, ⟨#[]⟩, 0, false, none, 0, 0, 0⟩ : Nc).cells := rowAt_at _ _ _ _ _ (by simp)
    have c31 := S1.rd.c3
    have l31 := S1.rd.bl
    have lw1 : w.heap.size < w1.heap.size := by omega
    have lw2 : w.heap.size < w1.heap.size + 1 := by omega
    have HS1 : Hid (Ds w _ b g cap L i (o : Int) 90 (p0 : Int)) := S1
    clear S1 s1 NM
    generalize hX : ((w1.alloc (.cells (Tk.mk 0 ⟨#[]⟩ 0 0).cells 38)).alloc (.cells (⟨31, ⟨#[]⟩, 0, false, none, 0, 0, 0⟩ : Nc).cells 25)) = X1 at *
    clear hX
    generalize w1.heap.size + 1 = qx at *
    generalize w1.heap.size = qt at *
    go_loopg [] 1 (fun gf X => X = X1)
    case atStart => rfl
    case round =>
      obtain rfl := hrel
      have n90 : ((90 : Int) == 0) = false := rfl
      go_wp2
      rw [HR0.out]
      exact ret_cell1 rfl rfl (loadNd_row (rowNd_put _ _ _ M1)) rfl (bad_d HS1.out bl gl (by decide))
end Go.Proofs.YtejcjhoojpoamaaDoor
