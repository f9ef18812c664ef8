/-
  The walk of the document's Ask of acceptors.
-/
import Derived.Test.YtalfcaepobbdeaaMd
namespace Go.Proofs.Ytalfcaepobbdeaa
open Go.RowKit Go.Great
set_option linter.unusedVariables false
set_option linter.unusedSimpArgs false
set_option maxRecDepth 20000
theorem in_at {a : Gt.A} (h : ∀ x ∈ a.gs, Gin x) (k : Nat) : Gin (a.gs.getD k Gt.none) := by
  by_cases hl : k < a.gs.length
  · have : a.gs.getD k Gt.none = a.gs[k] := by simp [hl]
    rw [this]
    exact h _ (List.getElem_mem hl)
  · have : a.gs.getD k Gt.none = Gt.none := by simp [Nat.le_of_not_lt hl]
    rw [this]
    exact ⟨⟨by decide, by decide⟩, ⟨by decide, by decide⟩, ⟨by decide, by decide⟩⟩
theorem Acc.row {w : World} {boot : Int} {ad : Option Addr} {n c : Nat} {a : Gt.A} (h : Acc w (acs boot ad n c) a) : GE.Row w Any ad n a.gs := by
  obtain ⟨ad', n', c', e, h1, _⟩ := h
  simp only [acs, Array.mk.injEq, List.cons.injEq, Value.slice.injEq, and_true] at e
  obtain ⟨_, e1, e2, _⟩ := e
  subst e1 e2
  exact h1
def gz : List Value := gcs ⟨0, 0, 0⟩
theorem gz_is : gz.toArray = #[.int .i64 0, .int .i64 0, .int .i64 0] := rfl
theorem built_g3 (x y z : Int) : Try.prog.built 49 [(0, .int .i64 x), (1, .int .i64 y), (2, .int .i64 z)] = some (gcs ⟨x, y, z⟩).toArray := by kernel_rfl
set_option maxHeartbeats 8000000 in
theorem rgask_any {w : World} {S : Nat → Prop} {C V : Array Value} {p : Dr.P} {a : Gt.A} (h : Cc w S C p) (ha : Acc w V a) (s node nonce now : Int) (hs : In64 s) (hnode : In64 node) (hnonce : In64 nonce) (hnow : In64 now) :
    Calls Try.prog 11 #[.agg C, .agg V, .int .i64 s, .int .i64 node, .int .i64 nonce, .int .i64 now] w (AccB w (Gt.ask p a s node nonce now).1 (Gt.ask p a s node nonce now).2) := by
  have h11 := h.size
  obtain ⟨w1, hw1, hP, hA, hZ, hb1⟩ := boxes_paz h ha
  have HW := Lib.hid hw1
  have HK : Hid (Cal w w1 C V p a) := Lib.hid ⟨hP, hA, hZ, hb1⟩
  obtain ⟨ad, n, c, rfl, hrow, hnc, hbt, hn⟩ := ha
  have HL := Lib.hid (And.intro hrow.1 hrow.2.1)
  have HI := Lib.hid (And.intro hs (And.intro hnode (And.intro hnonce hnow)))
  obtain ⟨r, hr⟩ : ∃ r, Gt.ask p a s node nonce now = r := ⟨_, rfl⟩
  rw [hr]
  have HR := Lib.hid hr
  have HNO : Hid (¬ Gt.grants p a s node nonce now → r = (a, false)) := Lib.hid fun hno => by rw [← HR.out]; exact if_neg hno
  have HYES : Hid (Gt.grants p a s node nonce now → r = (Gt.put a s ⟨node, nonce, now⟩, true)) := Lib.hid fun hy => by rw [← HR.out]; exact if_pos hy
  clear h hw1 hP hA hZ hb1 hrow hbt hs hnode hnonce hnow hr
  go_enter Try.func11, Try.ntmps11
  go_upto_region 1 with fail
  rw [← az_is, HW.out]
  go_wp2_with (first | ((with_reducible show wpList _ _ _ ((⟨some 18, Op.load 24 (.tmp 6), _, _, _, _⟩ : Oper) :: _) _ _); refine wpList_load_rowG (by rfl) _ (.tmp 6) rfl w.heap.size rfl 24 C (0, 0) _ HK.out.pl.1 Try.underlying24 rfl (by rw [h11]; exact info11) ?_) | ((with_reducible show wpList _ _ _ ((⟨some 19, Op.load 30 (.tmp 7), _, _, _, _⟩ : Oper) :: _) _ _); refine wpList_load_rowG (by rfl) _ (.tmp 7) rfl (w.heap.size + 1) rfl 30 (acs a.boot ad n c) (0, 0) _ HK.out.ab.1 Try.underlying30 rfl info_acc ?_) | fail)
  refine (rmay_any HK.out.pl.2 HK.out.ab.2 s).mono ?_
  rintro e w2 ⟨rfl, hb2⟩
  have HK := Lib.hid (HK.out.on hb2)
  clear hb2
  by_cases hm : Gt.may p a s
  case neg =>
    rw [decide_eq_false hm]
    have HE : Hid (r = (a, false)) := Lib.hid (HNO.out fun hg => hm hg.1)
    clear hm
    go_wp2_with (first | ((with_reducible show wpList _ _ _ ((⟨some 42, Op.load 30 (.tmp 7), _, _, _, _⟩ : Oper) :: _) _ _); refine wpList_load_rowG (by rfl) _ (.tmp 7) rfl (w.heap.size + 1) rfl 30 (acs a.boot ad n c) (0, 0) _ HK.out.ab.1 Try.underlying30 rfl info_acc ?_) | ((with_reducible show wpList _ _ _ ((⟨_, Op.store 30 (.tmp 12) _, _, _, _, _⟩ : Oper) :: _) _ _); refine wpList_store_row rfl 30 (.tmp 12) (.tmp 42) rfl (w.heap.size + 1 + 1) (acs a.boot ad n c) rfl rfl 30 _ HK.out.z info_acc rfl (by simp [acs, Value.oneCell']) ?_) | fail)
    refine bodyPost_ret (results_cell_one rfl _ _ _ _ rfl (run_loadVar_row _ _ _ _ _ (0, 0) _ (HK.out.z.row (acs a.boot ad n c)) Try.underlying30 rfl info_acc)) rfl ?_
    rw [HE.out]
    exact ⟨_, rfl, HK.out.acc HK.out.ab.2, below_row HK.out.below (by omega) _⟩
  rw [decide_eq_true hm]
  obtain ⟨k, hk⟩ : ∃ k : Nat, s = (k : Int) := ⟨s.toNat, by have := hm.2.2.1; omega⟩
  have hkn : k < n := by have h1 := hm.2.1; have h2 := hm.2.2.2; rw [HL.out.1] at h1; omega
  have HM := Lib.hid (And.intro hm hk)
  subst hk
  obtain ⟨N, hN⟩ : ∃ N, p.nodes = N := ⟨_, rfl⟩
  have HN := Lib.hid hN
  have c0 := HK.out.pl.cells.1
  rw [hN] at c0
  clear hm hN
  by_cases z1 : node < 0
  · have HE : Hid (r = (a, false)) := Lib.hid (HNO.out fun hg => by have := hg.2.1; omega)
    go_wp2_with (first | ((with_reducible show wpList _ _ _ ((⟨some 42, Op.load 30 (.tmp 7), _, _, _, _⟩ : Oper) :: _) _ _); refine wpList_load_rowG (by rfl) _ (.tmp 7) rfl (w.heap.size + 1) rfl 30 (acs a.boot ad n c) (0, 0) _ HK.out.ab.1 Try.underlying30 rfl info_acc ?_) | ((with_reducible show wpList _ _ _ ((⟨_, Op.store 30 (.tmp 12) _, _, _, _, _⟩ : Oper) :: _) _ _); refine wpList_store_row rfl 30 (.tmp 12) (.tmp 42) rfl (w.heap.size + 1 + 1) (acs a.boot ad n c) rfl rfl 30 _ HK.out.z info_acc rfl (by simp [acs, Value.oneCell']) ?_) | fail)
    refine bodyPost_ret (results_cell_one rfl _ _ _ _ rfl (run_loadVar_row _ _ _ _ _ (0, 0) _ (HK.out.z.row (acs a.boot ad n c)) Try.underlying30 rfl info_acc)) rfl ?_
    rw [HE.out]
    exact ⟨_, rfl, HK.out.acc HK.out.ab.2, below_row HK.out.below (by omega) _⟩
  by_cases z2 : node ≥ N
  · have HE : Hid (r = (a, false)) := Lib.hid (HNO.out fun hg => by have := hg.2.2.1; rw [HN.out] at this; omega)
    go_wp2_with (first | ((with_reducible show wpList _ _ _ ((⟨some 42, Op.load 30 (.tmp 7), _, _, _, _⟩ : Oper) :: _) _ _); refine wpList_load_rowG (by rfl) _ (.tmp 7) rfl (w.heap.size + 1) rfl 30 (acs a.boot ad n c) (0, 0) _ HK.out.ab.1 Try.underlying30 rfl info_acc ?_) | ((with_reducible show wpList _ _ _ ((⟨_, Op.store 30 (.tmp 12) _, _, _, _, _⟩ : Oper) :: _) _ _); refine wpList_store_row rfl 30 (.tmp 12) (.tmp 42) rfl (w.heap.size + 1 + 1) (acs a.boot ad n c) rfl rfl 30 _ HK.out.z info_acc rfl (by simp [acs, Value.oneCell']) ?_) | fail)
    refine bodyPost_ret (results_cell_one rfl _ _ _ _ rfl (run_loadVar_row _ _ _ _ _ (0, 0) _ (HK.out.z.row (acs a.boot ad n c)) Try.underlying30 rfl info_acc)) rfl ?_
    rw [HE.out]
    exact ⟨_, rfl, HK.out.acc HK.out.ab.2, below_row HK.out.below (by omega) _⟩
  by_cases z3 : nonce < 0
  · have HE : Hid (r = (a, false)) := Lib.hid (HNO.out fun hg => by have := hg.2.2.2.1; omega)
    go_wp2_with (first | ((with_reducible show wpList _ _ _ ((⟨some 42, Op.load 30 (.tmp 7), _, _, _, _⟩ : Oper) :: _) _ _); refine wpList_load_rowG (by rfl) _ (.tmp 7) rfl (w.heap.size + 1) rfl 30 (acs a.boot ad n c) (0, 0) _ HK.out.ab.1 Try.underlying30 rfl info_acc ?_) | ((with_reducible show wpList _ _ _ ((⟨_, Op.store 30 (.tmp 12) _, _, _, _, _⟩ : Oper) :: _) _ _); refine wpList_store_row rfl 30 (.tmp 12) (.tmp 42) rfl (w.heap.size + 1 + 1) (acs a.boot ad n c) rfl rfl 30 _ HK.out.z info_acc rfl (by simp [acs, Value.oneCell']) ?_) | fail)
    refine bodyPost_ret (results_cell_one rfl _ _ _ _ rfl (run_loadVar_row _ _ _ _ _ (0, 0) _ (HK.out.z.row (acs a.boot ad n c)) Try.underlying30 rfl info_acc)) rfl ?_
    rw [HE.out]
    exact ⟨_, rfl, HK.out.acc HK.out.ab.2, below_row HK.out.below (by omega) _⟩
  by_cases z4 : now < 0
  · have HE : Hid (r = (a, false)) := Lib.hid (HNO.out fun hg => by have := hg.2.2.2.2.1; omega)
    go_wp2_with (first | ((with_reducible show wpList _ _ _ ((⟨some 42, Op.load 30 (.tmp 7), _, _, _, _⟩ : Oper) :: _) _ _); refine wpList_load_rowG (by rfl) _ (.tmp 7) rfl (w.heap.size + 1) rfl 30 (acs a.boot ad n c) (0, 0) _ HK.out.ab.1 Try.underlying30 rfl info_acc ?_) | ((with_reducible show wpList _ _ _ ((⟨_, Op.store 30 (.tmp 12) _, _, _, _, _⟩ : Oper) :: _) _ _); refine wpList_store_row rfl 30 (.tmp 12) (.tmp 42) rfl (w.heap.size + 1 + 1) (acs a.boot ad n c) rfl rfl 30 _ HK.out.z info_acc rfl (by simp [acs, Value.oneCell']) ?_) | fail)
    refine bodyPost_ret (results_cell_one rfl _ _ _ _ rfl (run_loadVar_row _ _ _ _ _ (0, 0) _ (HK.out.z.row (acs a.boot ad n c)) Try.underlying30 rfl info_acc)) rfl ?_
    rw [HE.out]
    exact ⟨_, rfl, HK.out.acc HK.out.ab.2, below_row HK.out.below (by omega) _⟩
  have cb : w2.cell? ⟨w.heap.size + 1, 0, none⟩ = some (.int .i64 a.boot) := HK.out.ab.1.cell 0
  have HZ : Hid (0 ≤ node ∧ node < N ∧ 0 ≤ nonce ∧ 0 ≤ now) := Lib.hid ⟨by omega, by omega, by omega, by omega⟩
  go_wp2_with (first | ((with_reducible show wpList _ _ _ ((⟨some 43, Op.load 24 (.tmp 6), _, _, _, _⟩ : Oper) :: _) _ _); refine wpList_load_rowG (by rfl) _ (.tmp 6) rfl w.heap.size rfl 24 C (0, 0) _ HK.out.pl.1 Try.underlying24 rfl (by rw [h11]; exact info11) ?_) | fail)
  clear z1 z2 z3 z4 c0 cb
  refine (rfree_any HK.out.pl.2 a.boot now).mono ?_
  rintro e w3 ⟨rfl, hb3⟩
  have HK := Lib.hid (HK.out.on hb3)
  clear hb3
  obtain ⟨b1, hb1⟩ : ∃ b, p.free a.boot now = b := ⟨_, rfl⟩
  have HB1 := Lib.hid hb1
  rw [hb1]
  clear hb1
  have hcell : w3.cell? ⟨w.heap.size + 1, 1, none⟩ = some (.slice ad n c) := HK.out.ab.1.cell 1
  go_upto_region 5 with fail
  obtain ⟨b, off, rfl, _, hbl, hrg⟩ := HK.out.ab.2.row.at_ hkn
  obtain ⟨g, hg⟩ : ∃ g, a.gs.getD k Gt.none = g := ⟨_, rfl⟩
  have hgin : Gin g := by rw [← hg]; exact in_at HL.out.2 k
  have HGA : Hid (Gt.at_ a (k : Int) = g) := Lib.hid (by rw [gt_at rfl, hg])
  have e3 : GE.K = 3 := rfl
  have ez : GE.z = Gt.none := rfl
  rw [e3, ez, hg] at hrg
  have d0 : w3.cell? ⟨b, off + k * 3, none⟩ = some (.int .i64 g.node) := hrg 0 _ rfl
  have d1 : w3.cell? ⟨b, off + k * 3 + 1, none⟩ = some (.int .i64 g.nonce) := hrg 1 _ rfl
  have d2 : w3.cell? ⟨b, off + k * 3 + 2, none⟩ = some (.int .i64 g.since) := hrg 2 _ rfl
  have HGI := Lib.hid hgin
  clear hrg hg hgin hbl e3 ez
  go_upto_region 6 with (first | ((with_reducible show wpList _ _ _ ((⟨_, Op.store 49 (.tmp 16) _, _, _, _, _⟩ : Oper) :: _) _ _); refine wpList_store_row rfl 49 (.tmp 16) (.tmp 52) rfl w3.heap.size (gcs g).toArray rfl rfl 49 gz.toArray (Whole.new w3 49 gz.toArray) info_gr rfl (gcs_one g) ?_) | fail)
  rw [← gz_is]
  obtain ⟨w4, hw4⟩ : ∃ w4, (w3.alloc (.cells gz.toArray 49)).setRow w3.heap.size (gcs g).toArray = w4 := ⟨_, rfl⟩
  have hW4 : Whole w4 w3.heap.size 49 (gcs g).toArray := by rw [← hw4]; exact (Whole.new w3 _ _).row _
  have hb4 : Below w3.heap.size w3 w4 := by rw [← hw4]; exact below_row (below_alloc w3 _) (Nat.le_refl _) _
  rw [hw4]
  obtain ⟨gg, hgg⟩ : ∃ gg, w3.heap.size = gg := ⟨_, rfl⟩
  have HK := Lib.hid (HK.out.on hb4)
  rw [hgg] at hW4 ⊢
  have HW4 := Lib.hid hW4
  have c2 : w4.cell? ⟨gg, 2, none⟩ = some (.int .i64 g.since) := hW4.cell 2
  clear hw4 hW4 hb4 hgg d0 d1 d2 hcell
  go_wp2_with (first | ((with_reducible show wpList _ _ _ ((⟨some 53, Op.load 24 (.tmp 6), _, _, _, _⟩ : Oper) :: _) _ _); refine wpList_load_rowG (by rfl) _ (.tmp 6) rfl w.heap.size rfl 24 C (0, 0) _ HK.out.pl.1 Try.underlying24 rfl (by rw [h11]; exact info11) ?_) | fail)
  refine (rfree_any HK.out.pl.2 g.since now).mono ?_
  rintro e w5 ⟨rfl, hb5⟩
  have HK := Lib.hid (HK.out.on hb5)
  have hW5 := HW4.out.below hb5 HW4.out.lt
  have k0 : w5.cell? ⟨gg, 0, none⟩ = some (.int .i64 g.node) := hW5.cell 0
  have k1 : w5.cell? ⟨gg, 1, none⟩ = some (.int .i64 g.nonce) := hW5.cell 1
  obtain ⟨b2, hb2⟩ : ∃ b, p.free g.since now = b := ⟨_, rfl⟩
  have HB2 := Lib.hid hb2
  rw [hb2]
  clear hb2 hb5 hW5 c2 HW4
  have HGR : Hid (Gt.grants p a (k : Int) node nonce now ↔ b1 = true ∧ (g.node < 0 ∨ (g.node = node ∧ g.nonce < nonce) ∨ b2 = true)) := Lib.hid (by
    unfold Gt.grants
    rw [HGA.out, HB1.out, HB2.out]
    have hz := HZ.out
    have hm := HM.out.1
    constructor
    · rintro ⟨_, _, _, _, _, h1, h2⟩
      exact ⟨h1, h2⟩
    · rintro ⟨h1, h2⟩
      exact ⟨hm, hz.1, by rw [HN.out]; exact hz.2.1, hz.2.2.1, hz.2.2.2, h1, h2⟩)
  cases b1
  case false =>
    clear k0 k1
    have HE : Hid (r = (a, false)) := Lib.hid (HNO.out fun hg => by have h2 := HGR.out.1 hg; cases h2.1)
    go_wp2_with (first | ((with_reducible show wpList _ _ _ ((⟨some 82, Op.load 30 (.tmp 7), _, _, _, _⟩ : Oper) :: _) _ _); refine wpList_load_rowG (by rfl) _ (.tmp 7) rfl (w.heap.size + 1) rfl 30 (acs a.boot (some ⟨b, off, none⟩) n c) (0, 0) _ HK.out.ab.1 Try.underlying30 rfl info_acc ?_) | ((with_reducible show wpList _ _ _ ((⟨_, Op.store 30 (.tmp 12) _, _, _, _, _⟩ : Oper) :: _) _ _); refine wpList_store_row rfl 30 (.tmp 12) (.tmp 82) rfl (w.heap.size + 1 + 1) (acs a.boot (some ⟨b, off, none⟩) n c) rfl rfl 30 _ HK.out.z info_acc rfl (by simp [acs, Value.oneCell']) ?_) | fail)
    refine bodyPost_ret (results_cell_one rfl _ _ _ _ rfl (run_loadVar_row _ _ _ _ _ (0, 0) _ (HK.out.z.row (acs a.boot (some ⟨b, off, none⟩) n c)) Try.underlying30 rfl info_acc)) rfl ?_
    rw [HE.out]
    exact ⟨_, rfl, HK.out.acc HK.out.ab.2, below_row HK.out.below (by omega) _⟩
  by_cases z1 : g.node ≥ 0
  case neg =>
    have HE : Hid (r = (Gt.put a (k : Int) ⟨node, nonce, now⟩, true)) := Lib.hid (HYES.out (HGR.out.2 ⟨rfl, Or.inl (by omega)⟩))
    go_wp2_with (first | ((with_reducible show wpList _ _ _ ((⟨some 83, Op.load 30 (.tmp 7), _, _, _, _⟩ : Oper) :: _) _ _); refine wpList_load_rowG (by rfl) _ (.tmp 7) rfl (w.heap.size + 1) rfl 30 (acs a.boot (some ⟨b, off, none⟩) n c) (0, 0) _ HK.out.ab.1 Try.underlying30 rfl info_acc ?_) | ((with_reducible show wpList _ _ _ ((⟨_, Op.build 49 _, _, _, _, _⟩ : Oper) :: _) _ _); refine wpList_built rfl _ rfl [(0, .int .i64 node), (1, .int .i64 nonce), (2, .int .i64 now)] rfl (gcs ⟨node, nonce, now⟩) (built_g3 _ _ _) ?_) | fail)
    refine (rput_any HK.out.ab.2 k (by rw [HL.out.1]; exact hkn) ⟨node, nonce, now⟩ ⟨HI.out.2.1, HI.out.2.2.1, HI.out.2.2.2⟩).mono ?_
    rintro e w6 ⟨V6, rfl, ha6, hb6⟩
    have HK := Lib.hid (HK.out.on hb6)
    have h6 := ha6.size
    have h6o := ha6.one
    have HA6 := Lib.hid ha6
    clear ha6 hb6
    go_wp2_with (first | ((with_reducible show wpList _ _ _ ((⟨_, Op.store 30 (.tmp 12) _, _, _, _, _⟩ : Oper) :: _) _ _); refine wpList_store_row rfl 30 (.tmp 12) (.tmp 89) rfl (w.heap.size + 1 + 1) V6 rfl rfl 30 _ HK.out.z (by rw [h6]; exact info_acc) (by rw [h6]; rfl) h6o ?_) | fail)
    refine bodyPost_ret (results_cell_one rfl _ _ _ _ rfl (run_loadVar_row _ _ _ _ _ (0, 0) _ (HK.out.z.row V6) Try.underlying30 rfl (by rw [h6]; exact info_acc))) rfl ?_
    rw [HE.out]
    exact ⟨_, rfl, HK.out.acc HA6.out, below_row HK.out.below (by omega) _⟩
  by_cases z2 : g.node = node
  · have q2 : (g.node == node) = true := by simp [z2]
    by_cases z3 : g.nonce < nonce
    · have Z2 := Lib.hid z2
      clear z2
      have HE : Hid (r = (Gt.put a (k : Int) ⟨node, nonce, now⟩, true)) := Lib.hid (HYES.out (HGR.out.2 ⟨rfl, Or.inr (Or.inl ⟨Z2.out, z3⟩)⟩))
      go_wp2_with (first | ((with_reducible show wpList _ _ _ ((⟨some 83, Op.load 30 (.tmp 7), _, _, _, _⟩ : Oper) :: _) _ _); refine wpList_load_rowG (by rfl) _ (.tmp 7) rfl (w.heap.size + 1) rfl 30 (acs a.boot (some ⟨b, off, none⟩) n c) (0, 0) _ HK.out.ab.1 Try.underlying30 rfl info_acc ?_) | ((with_reducible show wpList _ _ _ ((⟨_, Op.build 49 _, _, _, _, _⟩ : Oper) :: _) _ _); refine wpList_built rfl _ rfl [(0, .int .i64 node), (1, .int .i64 nonce), (2, .int .i64 now)] rfl (gcs ⟨node, nonce, now⟩) (built_g3 _ _ _) ?_) | fail)
      refine (rput_any HK.out.ab.2 k (by rw [HL.out.1]; exact hkn) ⟨node, nonce, now⟩ ⟨HI.out.2.1, HI.out.2.2.1, HI.out.2.2.2⟩).mono ?_
      rintro e w6 ⟨V6, rfl, ha6, hb6⟩
      have HK := Lib.hid (HK.out.on hb6)
      have h6 := ha6.size
      have h6o := ha6.one
      have HA6 := Lib.hid ha6
      clear ha6 hb6
      go_wp2_with (first | ((with_reducible show wpList _ _ _ ((⟨_, Op.store 30 (.tmp 12) _, _, _, _, _⟩ : Oper) :: _) _ _); refine wpList_store_row rfl 30 (.tmp 12) (.tmp 89) rfl (w.heap.size + 1 + 1) V6 rfl rfl 30 _ HK.out.z (by rw [h6]; exact info_acc) (by rw [h6]; rfl) h6o ?_) | fail)
      refine bodyPost_ret (results_cell_one rfl _ _ _ _ rfl (run_loadVar_row _ _ _ _ _ (0, 0) _ (HK.out.z.row V6) Try.underlying30 rfl (by rw [h6]; exact info_acc))) rfl ?_
      rw [HE.out]
      exact ⟨_, rfl, HK.out.acc HA6.out, below_row HK.out.below (by omega) _⟩
    · have d3 : decide (g.nonce < nonce) = false := decide_eq_false z3
      cases b2
      case false =>
        have Z2 := Lib.hid z2
        clear z2
        have HE : Hid (r = (a, false)) := Lib.hid (HNO.out fun hg => by have h2 := HGR.out.1 hg; rcases h2.2 with h | h | h <;> first | omega | cases h)
        go_wp2_with (first | ((with_reducible show wpList _ _ _ ((⟨some 82, Op.load 30 (.tmp 7), _, _, _, _⟩ : Oper) :: _) _ _); refine wpList_load_rowG (by rfl) _ (.tmp 7) rfl (w.heap.size + 1) rfl 30 (acs a.boot (some ⟨b, off, none⟩) n c) (0, 0) _ HK.out.ab.1 Try.underlying30 rfl info_acc ?_) | ((with_reducible show wpList _ _ _ ((⟨_, Op.store 30 (.tmp 12) _, _, _, _, _⟩ : Oper) :: _) _ _); refine wpList_store_row rfl 30 (.tmp 12) (.tmp 82) rfl (w.heap.size + 1 + 1) (acs a.boot (some ⟨b, off, none⟩) n c) rfl rfl 30 _ HK.out.z info_acc rfl (by simp [acs, Value.oneCell']) ?_) | fail)
        refine bodyPost_ret (results_cell_one rfl _ _ _ _ rfl (run_loadVar_row _ _ _ _ _ (0, 0) _ (HK.out.z.row (acs a.boot (some ⟨b, off, none⟩) n c)) Try.underlying30 rfl info_acc)) rfl ?_
        rw [HE.out]
        exact ⟨_, rfl, HK.out.acc HK.out.ab.2, below_row HK.out.below (by omega) _⟩
      case true =>
        have Z2 := Lib.hid z2
        clear z2
        have HE : Hid (r = (Gt.put a (k : Int) ⟨node, nonce, now⟩, true)) := Lib.hid (HYES.out (HGR.out.2 ⟨rfl, Or.inr (Or.inr rfl)⟩))
        go_wp2_with (first | ((with_reducible show wpList _ _ _ ((⟨some 83, Op.load 30 (.tmp 7), _, _, _, _⟩ : Oper) :: _) _ _); refine wpList_load_rowG (by rfl) _ (.tmp 7) rfl (w.heap.size + 1) rfl 30 (acs a.boot (some ⟨b, off, none⟩) n c) (0, 0) _ HK.out.ab.1 Try.underlying30 rfl info_acc ?_) | ((with_reducible show wpList _ _ _ ((⟨_, Op.build 49 _, _, _, _, _⟩ : Oper) :: _) _ _); refine wpList_built rfl _ rfl [(0, .int .i64 node), (1, .int .i64 nonce), (2, .int .i64 now)] rfl (gcs ⟨node, nonce, now⟩) (built_g3 _ _ _) ?_) | fail)
        refine (rput_any HK.out.ab.2 k (by rw [HL.out.1]; exact hkn) ⟨node, nonce, now⟩ ⟨HI.out.2.1, HI.out.2.2.1, HI.out.2.2.2⟩).mono ?_
        rintro e w6 ⟨V6, rfl, ha6, hb6⟩
        have HK := Lib.hid (HK.out.on hb6)
        have h6 := ha6.size
        have h6o := ha6.one
        have HA6 := Lib.hid ha6
        clear ha6 hb6
        go_wp2_with (first | ((with_reducible show wpList _ _ _ ((⟨_, Op.store 30 (.tmp 12) _, _, _, _, _⟩ : Oper) :: _) _ _); refine wpList_store_row rfl 30 (.tmp 12) (.tmp 89) rfl (w.heap.size + 1 + 1) V6 rfl rfl 30 _ HK.out.z (by rw [h6]; exact info_acc) (by rw [h6]; rfl) h6o ?_) | fail)
        refine bodyPost_ret (results_cell_one rfl _ _ _ _ rfl (run_loadVar_row _ _ _ _ _ (0, 0) _ (HK.out.z.row V6) Try.underlying30 rfl (by rw [h6]; exact info_acc))) rfl ?_
        rw [HE.out]
        exact ⟨_, rfl, HK.out.acc HA6.out, below_row HK.out.below (by omega) _⟩
  · have q2 : (g.node == node) = false := by simp [z2]
    have Z2 := Lib.hid z2
    clear z2
    cases b2
    case false =>
      have HE : Hid (r = (a, false)) := Lib.hid (HNO.out fun hg => by have h2 := HGR.out.1 hg; rcases h2.2 with h | h | h <;> first | exact Z2.out h.1 | omega | cases h)
      go_wp2_with (first | ((with_reducible show wpList _ _ _ ((⟨some 82, Op.load 30 (.tmp 7), _, _, _, _⟩ : Oper) :: _) _ _); refine wpList_load_rowG (by rfl) _ (.tmp 7) rfl (w.heap.size + 1) rfl 30 (acs a.boot (some ⟨b, off, none⟩) n c) (0, 0) _ HK.out.ab.1 Try.underlying30 rfl info_acc ?_) | ((with_reducible show wpList _ _ _ ((⟨_, Op.store 30 (.tmp 12) _, _, _, _, _⟩ : Oper) :: _) _ _); refine wpList_store_row rfl 30 (.tmp 12) (.tmp 82) rfl (w.heap.size + 1 + 1) (acs a.boot (some ⟨b, off, none⟩) n c) rfl rfl 30 _ HK.out.z info_acc rfl (by simp [acs, Value.oneCell']) ?_) | fail)
      refine bodyPost_ret (results_cell_one rfl _ _ _ _ rfl (run_loadVar_row _ _ _ _ _ (0, 0) _ (HK.out.z.row (acs a.boot (some ⟨b, off, none⟩) n c)) Try.underlying30 rfl info_acc)) rfl ?_
      rw [HE.out]
      exact ⟨_, rfl, HK.out.acc HK.out.ab.2, below_row HK.out.below (by omega) _⟩
    case true =>
      have HE : Hid (r = (Gt.put a (k : Int) ⟨node, nonce, now⟩, true)) := Lib.hid (HYES.out (HGR.out.2 ⟨rfl, Or.inr (Or.inr rfl)⟩))
      go_wp2_with (first | ((with_reducible show wpList _ _ _ ((⟨some 83, Op.load 30 (.tmp 7), _, _, _, _⟩ : Oper) :: _) _ _); refine wpList_load_rowG (by rfl) _ (.tmp 7) rfl (w.heap.size + 1) rfl 30 (acs a.boot (some ⟨b, off, none⟩) n c) (0, 0) _ HK.out.ab.1 Try.underlying30 rfl info_acc ?_) | ((with_reducible show wpList _ _ _ ((⟨_, Op.build 49 _, _, _, _, _⟩ : Oper) :: _) _ _); refine wpList_built rfl _ rfl [(0, .int .i64 node), (1, .int .i64 nonce), (2, .int .i64 now)] rfl (gcs ⟨node, nonce, now⟩) (built_g3 _ _ _) ?_) | fail)
      refine (rput_any HK.out.ab.2 k (by rw [HL.out.1]; exact hkn) ⟨node, nonce, now⟩ ⟨HI.out.2.1, HI.out.2.2.1, HI.out.2.2.2⟩).mono ?_
      rintro e w6 ⟨V6, rfl, ha6, hb6⟩
      have HK := Lib.hid (HK.out.on hb6)
      have h6 := ha6.size
      have h6o := ha6.one
      have HA6 := Lib.hid ha6
      clear ha6 hb6
      go_wp2_with (first | ((with_reducible show wpList _ _ _ ((⟨_, Op.store 30 (.tmp 12) _, _, _, _, _⟩ : Oper) :: _) _ _); refine wpList_store_row rfl 30 (.tmp 12) (.tmp 89) rfl (w.heap.size + 1 + 1) V6 rfl rfl 30 _ HK.out.z (by rw [h6]; exact info_acc) (by rw [h6]; rfl) h6o ?_) | fail)
      refine bodyPost_ret (results_cell_one rfl _ _ _ _ rfl (run_loadVar_row _ _ _ _ _ (0, 0) _ (HK.out.z.row V6) Try.underlying30 rfl (by rw [h6]; exact info_acc))) rfl ?_
      rw [HE.out]
      exact ⟨_, rfl, HK.out.acc HA6.out, below_row HK.out.below (by omega) _⟩
end Go.Proofs.Ytalfcaepobbdeaa
