/-
  The walks of the document's Free of acceptors, and of Same, where two are one.
-/
import Derived.Test.YtalfcaepobbdeaaMf
namespace Go.Proofs.Ytalfcaepobbdeaa
open Go.RowKit Go.Great
set_option linter.unusedVariables false
set_option linter.unusedSimpArgs false
set_option maxRecDepth 20000
set_option maxHeartbeats 8000000 in
theorem rgfree_any {w : World} {S : Nat → Prop} {C V : Array Value} {p : Dr.P} {a : Gt.A} (h : Cc w S C p) (ha : Acc w V a) (s node nonce : Int) :
    Calls Try.prog 13 #[.agg C, .agg V, .int .i64 s, .int .i64 node, .int .i64 nonce] w (AccQ w (Gt.free p a s node nonce)) := by
  have h11 := h.size
  obtain ⟨w1, hw1, hP, hA, hZ, hb1⟩ := boxes_paz h ha
  have HW := Lib.hid hw1
  have HK : Hid (Cal w w1 C V p a) := Lib.hid ⟨hP, hA, hZ, hb1⟩
  obtain ⟨ad, n, c, rfl, hrow, hnc, hbt, hn⟩ := ha
  have HL := Lib.hid (And.intro hrow.1 hrow.2.1)
  obtain ⟨r, hr⟩ : ∃ r, Gt.free p a s node nonce = r := ⟨_, rfl⟩
  rw [hr]
  have HR := Lib.hid hr
  have HNO : Hid (¬ (Gt.may p a s ∧ (Gt.at_ a s).node = node ∧ (Gt.at_ a s).nonce = nonce) → r = a) := Lib.hid fun hno => by rw [← HR.out]; exact if_neg hno
  have HYES : Hid (Gt.may p a s ∧ (Gt.at_ a s).node = node ∧ (Gt.at_ a s).nonce = nonce → r = Gt.put a s Gt.none) := Lib.hid fun hy => by rw [← HR.out]; exact if_pos hy
  clear h hw1 hP hA hZ hb1 hrow hbt hr
  go_enter Try.func13, Try.ntmps13
  go_upto_region 1 with fail
  rw [← az_is, HW.out]
  go_wp2_with (first | ((with_reducible show wpList _ _ _ ((⟨some 12, Op.load 24 (.tmp 5), _, _, _, _⟩ : Oper) :: _) _ _); refine wpList_load_rowG (by rfl) _ (.tmp 5) rfl w.heap.size rfl 24 C (0, 0) _ HK.out.pl.1 Try.underlying24 rfl (by rw [h11]; exact info11) ?_) | ((with_reducible show wpList _ _ _ ((⟨some 13, Op.load 30 (.tmp 6), _, _, _, _⟩ : Oper) :: _) _ _); refine wpList_load_rowG (by rfl) _ (.tmp 6) rfl (w.heap.size + 1) rfl 30 (acs a.boot ad n c) (0, 0) _ HK.out.ab.1 Try.underlying30 rfl info_acc ?_) | fail)
  refine (rmay_any HK.out.pl.2 HK.out.ab.2 s).mono ?_
  rintro e w2 ⟨rfl, hb2⟩
  have HK := Lib.hid (HK.out.on hb2)
  clear hb2
  by_cases hm : Gt.may p a s
  case neg =>
    rw [decide_eq_false hm]
    have HE : Hid (r = a) := Lib.hid (HNO.out fun hg => hm hg.1)
    clear hm
    go_wp2_with (first | ((with_reducible show wpList _ _ _ ((⟨some 38, Op.load 30 (.tmp 6), _, _, _, _⟩ : Oper) :: _) _ _); refine wpList_load_rowG (by rfl) _ (.tmp 6) rfl (w.heap.size + 1) rfl 30 (acs a.boot ad n c) (0, 0) _ HK.out.ab.1 Try.underlying30 rfl info_acc ?_) | ((with_reducible show wpList _ _ _ ((⟨_, Op.store 30 (.tmp 10) _, _, _, _, _⟩ : Oper) :: _) _ _); refine wpList_store_row rfl 30 (.tmp 10) (.tmp 38) rfl (w.heap.size + 1 + 1) (acs a.boot ad n c) rfl rfl 30 _ HK.out.z info_acc rfl (by simp [acs, Value.oneCell']) ?_) | fail)
    refine bodyPost_ret (results_one_cell rfl _ _ _ _ rfl (run_loadVar_row _ _ _ _ _ (0, 0) _ (HK.out.z.row (acs a.boot ad n c)) Try.underlying30 rfl info_acc)) rfl ?_
    rw [HE.out]
    exact ⟨_, rfl, HK.out.acc HK.out.ab.2, below_row HK.out.below (by omega) _⟩
  rw [decide_eq_true hm]
  obtain ⟨k, hk⟩ : ∃ k : Nat, s = (k : Int) := ⟨s.toNat, by have := hm.2.2.1; omega⟩
  have hkn : k < n := by have h1 := hm.2.1; have h2 := hm.2.2.2; rw [HL.out.1] at h1; omega
  have HM := Lib.hid hm
  subst hk
  clear hm
  have hcell : w2.cell? ⟨w.heap.size + 1, 1, none⟩ = some (.slice ad n c) := HK.out.ab.1.cell 1
  obtain ⟨b, off, rfl, _, hbl, hrg⟩ := HK.out.ab.2.row.at_ hkn
  obtain ⟨g, hg⟩ : ∃ g, a.gs.getD k Gt.none = g := ⟨_, rfl⟩
  have HGA : Hid (Gt.at_ a (k : Int) = g) := Lib.hid (by rw [gt_at rfl, hg])
  have e3 : GE.K = 3 := rfl
  have ez : GE.z = Gt.none := rfl
  rw [e3, ez, hg] at hrg
  have d0 : w2.cell? ⟨b, off + k * 3, none⟩ = some (.int .i64 g.node) := hrg 0 _ rfl
  have d1 : w2.cell? ⟨b, off + k * 3 + 1, none⟩ = some (.int .i64 g.nonce) := hrg 1 _ rfl
  clear hrg hg hbl e3 ez
  by_cases z1 : g.node = node
  case neg =>
    have q1 : (g.node != node) = true := by simp [z1]
    have HE : Hid (r = a) := Lib.hid (HNO.out fun hg => z1 (by rw [← hg.2.1, HGA.out]))
    clear z1
    go_wp2_with (first | ((with_reducible show wpList _ _ _ ((⟨some 38, Op.load 30 (.tmp 6), _, _, _, _⟩ : Oper) :: _) _ _); refine wpList_load_rowG (by rfl) _ (.tmp 6) rfl (w.heap.size + 1) rfl 30 (acs a.boot (some ⟨b, off, none⟩) n c) (0, 0) _ HK.out.ab.1 Try.underlying30 rfl info_acc ?_) | ((with_reducible show wpList _ _ _ ((⟨_, Op.store 30 (.tmp 10) _, _, _, _, _⟩ : Oper) :: _) _ _); refine wpList_store_row rfl 30 (.tmp 10) (.tmp 38) rfl (w.heap.size + 1 + 1) (acs a.boot (some ⟨b, off, none⟩) n c) rfl rfl 30 _ HK.out.z info_acc rfl (by simp [acs, Value.oneCell']) ?_) | fail)
    refine bodyPost_ret (results_one_cell rfl _ _ _ _ rfl (run_loadVar_row _ _ _ _ _ (0, 0) _ (HK.out.z.row (acs a.boot (some ⟨b, off, none⟩) n c)) Try.underlying30 rfl info_acc)) rfl ?_
    rw [HE.out]
    exact ⟨_, rfl, HK.out.acc HK.out.ab.2, below_row HK.out.below (by omega) _⟩
  have q1 : (g.node != node) = false := by simp [z1]
  have Z1 := Lib.hid z1
  clear z1
  by_cases z2 : g.nonce = nonce
  case neg =>
    have q2 : (g.nonce != nonce) = true := by simp [z2]
    have HE : Hid (r = a) := Lib.hid (HNO.out fun hg => z2 (by rw [← hg.2.2, HGA.out]))
    clear z2
    go_wp2_with (first | ((with_reducible show wpList _ _ _ ((⟨some 38, Op.load 30 (.tmp 6), _, _, _, _⟩ : Oper) :: _) _ _); refine wpList_load_rowG (by rfl) _ (.tmp 6) rfl (w.heap.size + 1) rfl 30 (acs a.boot (some ⟨b, off, none⟩) n c) (0, 0) _ HK.out.ab.1 Try.underlying30 rfl info_acc ?_) | ((with_reducible show wpList _ _ _ ((⟨_, Op.store 30 (.tmp 10) _, _, _, _, _⟩ : Oper) :: _) _ _); refine wpList_store_row rfl 30 (.tmp 10) (.tmp 38) rfl (w.heap.size + 1 + 1) (acs a.boot (some ⟨b, off, none⟩) n c) rfl rfl 30 _ HK.out.z info_acc rfl (by simp [acs, Value.oneCell']) ?_) | fail)
    refine bodyPost_ret (results_one_cell rfl _ _ _ _ rfl (run_loadVar_row _ _ _ _ _ (0, 0) _ (HK.out.z.row (acs a.boot (some ⟨b, off, none⟩) n c)) Try.underlying30 rfl info_acc)) rfl ?_
    rw [HE.out]
    exact ⟨_, rfl, HK.out.acc HK.out.ab.2, below_row HK.out.below (by omega) _⟩
  have q2 : (g.nonce != nonce) = false := by simp [z2]
  have HE : Hid (r = Gt.put a (k : Int) Gt.none) := Lib.hid (HYES.out ⟨HM.out, by rw [HGA.out]; exact Z1.out, by rw [HGA.out]; exact z2⟩)
  clear z2
  go_wp2_with (first | ((with_reducible show wpList _ _ _ ((⟨some 39, Op.load 30 (.tmp 6), _, _, _, _⟩ : Oper) :: _) _ _); refine wpList_load_rowG (by rfl) _ (.tmp 6) rfl (w.heap.size + 1) rfl 30 (acs a.boot (some ⟨b, off, none⟩) n c) (0, 0) _ HK.out.ab.1 Try.underlying30 rfl info_acc ?_) | ((with_reducible show wpList _ _ _ ((⟨_, Op.build 49 _, _, _, _, _⟩ : Oper) :: _) _ _); refine wpList_built rfl _ rfl [(0, .int .i64 (-1))] rfl (gcs Gt.none) (by kernel_rfl) ?_) | fail)
  refine (rput_any HK.out.ab.2 k (by rw [HL.out.1]; exact hkn) Gt.none ⟨⟨by decide, by decide⟩, ⟨by decide, by decide⟩, ⟨by decide, by decide⟩⟩).mono ?_
  rintro e w6 ⟨V6, rfl, ha6, hb6⟩
  have HK := Lib.hid (HK.out.on hb6)
  have h6 := ha6.size
  have h6o := ha6.one
  have HA6 := Lib.hid ha6
  clear ha6 hb6
  go_wp2_with (first | ((with_reducible show wpList _ _ _ ((⟨_, Op.store 30 (.tmp 10) _, _, _, _, _⟩ : Oper) :: _) _ _); refine wpList_store_row rfl 30 (.tmp 10) (.tmp 42) rfl (w.heap.size + 1 + 1) V6 rfl rfl 30 _ HK.out.z (by rw [h6]; exact info_acc) (by rw [h6]; rfl) h6o ?_) | fail)
  refine bodyPost_ret (results_one_cell rfl _ _ _ _ rfl (run_loadVar_row _ _ _ _ _ (0, 0) _ (HK.out.z.row V6) Try.underlying30 rfl (by rw [h6]; exact info_acc))) rfl ?_
  rw [HE.out]
  exact ⟨_, rfl, HK.out.acc HA6.out, below_row HK.out.below (by omega) _⟩
/-- Two grants compared. -/
def eqFg (d : Nat) (xs ys : Array Value) : List (String × TypeId × Nat) → Sem Bool
  | [] => pure true
  | f :: fs =>
    if f.1 ≠ "_" then do
      let a ← part f.2.1 xs f.2.2
      let b ← part f.2.1 ys f.2.2
      let r ← Op.equalIn d f.2.1 a b
      if (!r) = true then pure false else eqFg d xs ys fs
    else eqFg d xs ys fs
theorem eqFg_is (d : Nat) (xs ys : Array Value) (fs : List Field) : Op.eqFields d xs ys fs = eqFg d xs ys (fs.map fun f => (f.name, f.type, f.offset)) := by
  induction fs with
  | nil => rfl
  | cons f fs ih =>
    simp only [Op.eqFields, eqFg, List.map_cons]
    rw [ih]
theorem fields_g : ((Try.prog.fieldsOf 49).toList.map fun f => (f.name, f.type, f.offset)) = [("Node", 3, 0), ("Nonce", 2, 1), ("Since", 2, 2)] := by kernel_rfl
theorem und_fg : Try.prog.underlying 49 = some (.struct (Try.prog.fieldsOf 49)) := by kernel_rfl
theorem part_intg {t : TypeId} {k : IntKind} (hu : Try.prog.underlying t = some (.int k)) (C : Array Value) (i : Nat) (v : Value) (h : C[i]? = some v) (w : World) : (part t C i).run Try.prog w = .ok v w := by
  have ha : (isAgg t).run Try.prog w = .ok false w := by
    unfold isAgg
    rw [Sem.run_bind, run_underlying hu w]
    rfl
  unfold part
  rw [Sem.run_bind, ha]
  simp only [Result.andThen_ok, Bool.false_eq_true, if_false, h]
  rfl
theorem equalG (a : Gt.G) (w : World) : (Op.equalIn 10000 49 (.agg (gcs a).toArray) (.agg (gcs a).toArray)).run Try.prog w = .ok true w := by
  rw [run_equalIn_struct w 9999 _ _ _ und_fg (by kernel_rfl), eqFg_is, fields_g]
  have p0 : ∀ (b : Gt.G) (w : World), (part 3 (gcs b).toArray 0).run Try.prog w = .ok (.int .i64 b.node) w := fun b w => part_intg Try.underlying3 _ _ _ rfl w
  have p1 : ∀ (b : Gt.G) (w : World), (part 2 (gcs b).toArray 1).run Try.prog w = .ok (.int .i64 b.nonce) w := fun b w => part_intg Try.underlying2 _ _ _ rfl w
  have p2 : ∀ (b : Gt.G) (w : World), (part 2 (gcs b).toArray 2).run Try.prog w = .ok (.int .i64 b.since) w := fun b w => part_intg Try.underlying2 _ _ _ rfl w
  have i0 := fun (x y : Int) (w : World) => run_equalIn_int (P := Try.prog) w 9998 3 .i64 .i64 x y Try.underlying3
  have i1 := fun (x y : Int) (w : World) => run_equalIn_int (P := Try.prog) w 9998 2 .i64 .i64 x y Try.underlying2
  simp only [eqFg, Sem.run_bind, p0, p1, p2, i0, i1, Result.andThen_ok, Sem.run_ite, Sem.run_pure]
  simp
theorem neG (a : Gt.G) (w : World) : (binOp .neq 49 (.agg (gcs a).toArray) (.agg (gcs a).toArray)).run Try.prog w = .ok (.bool false) w := by
  rw [run_neq_struct w, equalG a w]
  rfl
/-- Two acceptors boxed. -/
theorem boxes_aa {w : World} {V V' : Array Value} {a a' : Gt.A} (ha : Acc w V a) (ha' : Acc w V' a') : ∃ w1, (w.alloc (.cells V 30)).alloc (.cells V' 30) = w1 ∧ Ab w1 w.heap.size V a ∧ Ab w1 (w.heap.size + 1) V' a' ∧ Below w.heap.size w w1 := by
  refine ⟨_, rfl, (Ab.new ha).on (below_alloc _ _), ?_, (below_alloc w _).alloc (by simp) _⟩
  have := Ab.new (ha'.on (below_alloc w (.cells V 30)))
  rw [size_alloc] at this
  exact this
set_option maxHeartbeats 8000000 in
theorem rasame_any {w : World} {V V' : Array Value} {a : Gt.A} (ha : Acc w V a) (ha' : Acc w V' a) : Calls Try.prog 14 #[.agg V, .agg V'] w fun e w' => e = .returned (.bool true) ∧ Below w.heap.size w w' := by
  obtain ⟨w1, hw1, hA, hB, hb1⟩ := boxes_aa ha ha'
  have HW := Lib.hid hw1
  have H1 : Hid (Ab w1 w.heap.size V a ∧ Ab w1 (w.heap.size + 1) V' a ∧ ∃ q, w1 = w1.drewN q) := Lib.hid ⟨hA, hB, 0, rfl⟩
  have HB1 := Lib.hid hb1
  obtain ⟨ad, n, c, rfl, hrow, hnc, hbt, hn⟩ := ha
  obtain ⟨ad', n', c', rfl, hrow', hnc', hbt', hn'⟩ := ha'
  have hnn : n' = n := by rw [← hrow'.1, hrow.1]
  subst hnn
  clear hw1 hA hB hb1 hrow hrow' hbt hbt' hn'
  have q0 : (a.boot != a.boot) = false := by simp
  have q1 : ((n' : Int) != (n' : Int)) = false := by simp
  go_enter Try.func14, Try.ntmps14
  go_upto_region 1 with fail
  rw [HW.out]
  have s0 : w1.cell? ⟨w.heap.size, 0, none⟩ = some (.int .i64 a.boot) := H1.out.1.1.cell 0
  have s1 : w1.cell? ⟨w.heap.size, 1, none⟩ = some (.slice ad n' c) := H1.out.1.1.cell 1
  have t0 : w1.cell? ⟨w.heap.size + 1, 0, none⟩ = some (.int .i64 a.boot) := H1.out.2.1.1.cell 0
  have t1 : w1.cell? ⟨w.heap.size + 1, 1, none⟩ = some (.slice ad' n' c') := H1.out.2.1.1.cell 1
  go_wp2
  clear s0 s1 t0 t1
  go_loopw [5] (fun v wr => ∃ k : Nat, k ≤ n' ∧ v = .int .i64 (k : Int) ∧ Hid (Ab wr w.heap.size (acs a.boot ad n' c) a ∧ Ab wr (w.heap.size + 1) (acs a.boot ad' n' c') a ∧ ∃ q, wr = w1.drewN q)) (fun v _ => n' - (intOf v).toNat)
  case atStart => exact ⟨0, Nat.zero_le _, rfl, H1⟩
  case round =>
    clear H1
    obtain ⟨k, hk, rfl, HB⟩ := hrel
    have s1 : wr.cell? ⟨w.heap.size, 1, none⟩ = some (.slice ad n' c) := HB.out.1.1.cell 1
    have t1 : wr.cell? ⟨w.heap.size + 1, 1, none⟩ = some (.slice ad' n' c') := HB.out.2.1.1.cell 1
    by_cases hlt : k < n'
    · obtain ⟨g, hg⟩ : ∃ g, a.gs.getD k Gt.none = g := ⟨_, rfl⟩
      obtain ⟨b, off, rfl, _, _, hrg⟩ := HB.out.1.2.row.at_ hlt
      obtain ⟨b', off', rfl, _, _, hrg'⟩ := HB.out.2.1.2.row.at_ hlt
      have e3 : GE.K = 3 := rfl
      have ez : GE.z = Gt.none := rfl
      rw [e3, ez, hg] at hrg hrg'
      have d0 : wr.cell? ⟨b, off + k * 3, none⟩ = some (.int .i64 g.node) := hrg 0 _ rfl
      have d1 : wr.cell? ⟨b, off + k * 3 + 1, none⟩ = some (.int .i64 g.nonce) := hrg 1 _ rfl
      have d2 : wr.cell? ⟨b, off + k * 3 + 2, none⟩ = some (.int .i64 g.since) := hrg 2 _ rfl
      have f0 : wr.cell? ⟨b', off' + k * 3, none⟩ = some (.int .i64 g.node) := hrg' 0 _ rfl
      have f1 : wr.cell? ⟨b', off' + k * 3 + 1, none⟩ = some (.int .i64 g.nonce) := hrg' 1 _ rfl
      have f2 : wr.cell? ⟨b', off' + k * 3 + 2, none⟩ = some (.int .i64 g.since) := hrg' 2 _ rfl
      have hne := neG g
      simp only [gcs] at hne
      have q2 : (k : Int) < (n' : Int) := by omega
      clear hrg hrg' hg e3 ez
      go_wp2
      go_quiet (fail)
      go_wp2
      go_roundw
      case rel => exact ⟨k + 1, by omega, by go_num, Lib.hid ⟨HB.out.1, HB.out.2.1, by obtain ⟨q, hq⟩ := HB.out.2.2; exact ⟨q + nq, by rw [hq]; simp [World.drewN, Nat.add_assoc]⟩⟩⟩
      case measure => simp [intOf]; omega
    · have q2 : ¬ ((k : Int) < (n' : Int)) := by omega
      go_wp2
      go_ret
      obtain ⟨q, hq⟩ := HB.out.2.2
      exact ⟨rfl, by rw [hq]; exact below_drewN HB1.out q⟩
end Go.Proofs.Ytalfcaepobbdeaa
