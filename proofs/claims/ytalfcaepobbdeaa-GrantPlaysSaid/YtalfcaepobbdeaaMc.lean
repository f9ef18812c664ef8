/-
  The walks of the document's may and put.
-/
import Derived.Test.YtalfcaepobbdeaaMb
namespace Go.Proofs.Ytalfcaepobbdeaa
open Go.RowKit Go.Great
set_option linter.unusedVariables false
set_option linter.unusedSimpArgs false
set_option maxRecDepth 20000
/-- A plan and an acceptor boxed. -/
theorem boxes_pa {w : World} {S : Nat → Prop} {C V : Array Value} {p : Dr.P} {a : Gt.A} (h : Cc w S C p) (ha : Acc w V a) : ∃ w1, (w.alloc (.cells C 24)).alloc (.cells V 30) = w1 ∧ Pl w1 w.heap.size C p ∧ Ab w1 (w.heap.size + 1) V a ∧ Below w.heap.size w w1 := by
  refine ⟨_, rfl, (Pl.new h).on (below_alloc _ _), ?_, (below_alloc w _).alloc (by simp) _⟩
  have := Ab.new (ha.on (below_alloc w (.cells C 24)))
  rw [size_alloc] at this
  exact this
set_option maxHeartbeats 4000000 in
theorem rmay_any {w : World} {S : Nat → Prop} {C V : Array Value} {p : Dr.P} {a : Gt.A} (h : Cc w S C p) (ha : Acc w V a) (s : Int) : Calls Try.prog 24 #[.agg C, .agg V, .int .i64 s] w fun e w' => e = .returned (.bool (decide (Gt.may p a s))) ∧ Below w.heap.size w w' := by
  have h11 := h.size
  obtain ⟨w1, hw1, hP, hA, hb1⟩ := boxes_pa h ha
  have HW := Lib.hid hw1
  have H1 := Lib.hid (And.intro hP (And.intro hA hb1))
  obtain ⟨ad, n, c, rfl, hrow, hnc, hbt, hn⟩ := ha
  have HL := Lib.hid hrow.1
  obtain ⟨t, ht⟩ : ∃ t, decide (Gt.may p a s) = t := ⟨_, rfl⟩
  rw [ht]
  have HT : Hid (t = decide (p.ok ∧ (n : Int) = p.slots ∧ 0 ≤ s ∧ s < p.slots)) := Lib.hid (by rw [← ht, ← HL.out]; rfl)
  clear h hw1 hP hA hb1 hrow ht
  go_enter Try.func24, Try.ntmps24
  go_upto_region 1 with fail
  rw [HW.out]
  go_wp2_with (first | ((with_reducible show wpList _ _ _ ((⟨some 7, Op.load 24 (.tmp 3), _, _, _, _⟩ : Oper) :: _) _ _); refine wpList_load_rowG (by rfl) _ (.tmp 3) rfl w.heap.size rfl 24 C (0, 0) _ H1.out.1.1 Try.underlying24 rfl (by rw [h11]; exact info11) ?_) | fail)
  refine (rcheck_any H1.out.1.2).mono ?_
  rintro e w2 ⟨rfl, hb2⟩
  have H2 := Lib.hid (And.intro (H1.out.1.on hb2) (And.intro (H1.out.2.1.on hb2) (H1.out.2.2.trans (hb2.mono H1.out.2.2.size))))
  clear hb2 H1
  by_cases hok : p.ok
  case neg =>
    rw [Dr.P.chk_no hok]
    have HE : Hid (t = false) := Lib.hid (by rw [HT.out]; exact decide_eq_false fun h => hok h.1)
    clear hok
    go_wp2
    go_ret
    exact ⟨ret_bool HE.out.symm, H2.out.2.2⟩
  rw [Dr.P.chk_ok hok]
  have HO := Lib.hid hok
  obtain ⟨k, hk⟩ : ∃ k, p.slots = k := ⟨_, rfl⟩
  have c1 := H2.out.1.cells.2.1
  have c2 : w2.cell? ⟨w.heap.size + 1, 1, none⟩ = some (.slice ad n c) := H2.out.2.1.1.cell 1
  rw [hk] at c1
  have HK := Lib.hid hk
  clear hok hk
  by_cases z1 : (n : Int) = k
  case neg =>
    have HE : Hid (t = false) := Lib.hid (by rw [HT.out, HK.out]; exact decide_eq_false fun h => z1 h.2.1)
    have q : ((n : Int) == k) = false := by simp [z1]
    clear z1
    go_wp2
    go_ret
    exact ⟨ret_bool HE.out.symm, H2.out.2.2⟩
  have q : ((n : Int) == k) = true := by simp [z1]
  have Z1 := Lib.hid z1
  clear z1
  by_cases z2 : s ≥ 0
  case neg =>
    have HE : Hid (t = false) := Lib.hid (by rw [HT.out]; exact decide_eq_false fun h => z2 h.2.2.1)
    go_wp2
    go_ret
    exact ⟨ret_bool HE.out.symm, H2.out.2.2⟩
  by_cases z3 : s < k
  case neg =>
    have HE : Hid (t = false) := Lib.hid (by rw [HT.out, HK.out]; exact decide_eq_false fun h => z3 h.2.2.2)
    have d3 : decide (s < k) = false := decide_eq_false z3
    go_wp2
    go_ret
    exact ⟨ret_bool HE.out.symm, H2.out.2.2⟩
  have HE : Hid (t = true) := Lib.hid (by rw [HT.out, HK.out]; exact decide_eq_true ⟨HO.out, Z1.out, z2, z3⟩)
  go_wp2
  go_ret
  exact ⟨ret_bool HE.out.symm, H2.out.2.2⟩
theorem gcs_one (g : Gt.G) : (gcs g).toArray.all (·.oneCell') = true := by simp [gcs, Value.oneCell']
theorem built_aa (x : Int) (ad : Option Addr) (n c : Nat) : Try.prog.built 30 [(0, .int .i64 x), (1, .slice ad n c)] = some (acs x ad n c) := by kernel_rfl
set_option maxHeartbeats 4000000 in
theorem rput_any {w : World} {V : Array Value} {a : Gt.A} (ha : Acc w V a) (s : Nat) (hs : s < a.gs.length) (g : Gt.G) (hg : Gin g) : Calls Try.prog 26 #[.agg V, .int .i64 (s : Int), .agg (gcs g).toArray] w (AccQ w (Gt.put a (s : Int) g)) := by
  obtain ⟨w1, hw1, hA, hG, hZ, hb1⟩ : ∃ w1, ((w.alloc (.cells V 30)).alloc (.cells (gcs g).toArray 49)).alloc (.cells az 30) = w1 ∧ Ab w1 w.heap.size V a ∧ Whole w1 (w.heap.size + 1) 49 (gcs g).toArray ∧ Whole w1 (w.heap.size + 1 + 1) 30 az ∧ Below w.heap.size w w1 := by
    refine ⟨_, rfl, ((Ab.new ha).on (below_alloc _ _)).on (below_alloc _ _), ?_, ?_, ((below_alloc w _).alloc (by simp) _).alloc (by simp; omega) _⟩
    · have := (Whole.new (w.alloc (.cells V 30)) 49 (gcs g).toArray).alloc (.cells az 30)
      rw [size_alloc] at this
      exact this
    · have := Whole.new ((w.alloc (.cells V 30)).alloc (.cells (gcs g).toArray 49)) 30 az
      rw [size_alloc, size_alloc] at this
      exact this
  have HW := Lib.hid hw1
  obtain ⟨ad, n, c, rfl, hrow, hnc, hbt, hn⟩ := ha
  have hrow1 : GE.Row w1 Any ad n a.gs := hrow.on hb1
  have H1 := Lib.hid (And.intro hA (And.intro hG (And.intro hZ (And.intro hb1 hrow1))))
  have hsn : s < n := by rw [← hrow.1]; exact hs
  have HG := Lib.hid (And.intro hg (And.intro hrow.2.1 hrow.1))
  have HB := Lib.hid hbt
  clear hw1 hA hG hZ hb1 hrow hrow1 hs hg hbt
  go_enter Try.func26, Try.ntmps26
  go_upto_region 1 with fail
  rw [← az_is, HW.out]
  have c1 : w1.cell? ⟨w.heap.size, 1, none⟩ = some (.slice ad n c) := H1.out.1.1.cell 1
  have cb : w1.cell? ⟨w.heap.size, 0, none⟩ = some (.int .i64 a.boot) := H1.out.1.1.cell 0
  have hl0 := H1.out.1.1.lt
  have HC := Lib.hid (And.intro c1 cb)
  clear cb
  go_wp2_with (first | ((with_reducible show wpList _ _ _ ((⟨_, Op.buildSlice _ 0 _, _, _, _, _⟩ : Oper) :: _) _ _); refine GE.wpList_build0 (by rfl) rfl ?_) | (at_builtin; refine GE.wpList_append _ (by rfl) (.tmp 8) (.tmp 10) rfl w1.heap.size (.slice (some ⟨w1.heap.size, 0, none⟩) 0 0) 0 [] rfl (GE.empty_own w1) Any ad n c a.gs rfl (H1.out.2.2.2.2.on (below_alloc w1 _)) (by omega) (by omega) (by simp) ?_) | fail)
  intro v2 w2 hown hg _
  obtain ⟨a2, c2, rfl, hO, hb2⟩ := GE.copied HG.out.2.2 HG.out.2.1 hown hg
  obtain ⟨g2, cur, rfl, hBg, hgl, hc2, hWh, hcl, _⟩ := hO.form (by omega)
  have hl1 := H1.out.2.1.lt
  have hl2 := H1.out.2.2.1.lt
  have H2 := Lib.hid (And.intro hO (And.intro hWh (And.intro (H1.out.2.1.below hb2 hl1) (And.intro (H1.out.2.2.1.below hb2 hl2) (And.intro ((hb2.cell (p := ⟨w.heap.size, 0, none⟩) hl0).trans HC.out.2) (H1.out.2.2.2.1.trans (hb2.mono H1.out.2.2.2.1.size)))))))
  have hne : g2 ≠ w.heap.size + 1 + 1 ∧ g2 ≠ w.heap.size ∧ w.heap.size ≤ g2 := ⟨by omega, by omega, by omega⟩
  have HL : Hid (s * 3 + 3 ≤ cur.length) := Lib.hid (by
    have : GE.K = 3 := rfl
    rw [this] at hcl
    omega)
  have HNE := Lib.hid (And.intro hne (And.intro hsn hc2))
  clear hown hg hb2 hO hWh hcl c1 hl0 hl1 hl2 hBg hgl hne
  go_upto_region 3 with (first | ((with_reducible show wpList _ _ _ ((⟨_, Op.load 49 (.tmp 5), _, _, _, _⟩ : Oper) :: _) _ _); refine wpList_load_rowG (by rfl) _ (.tmp 5) rfl (w.heap.size + 1) rfl 49 (gcs g).toArray (0, 0) _ H2.out.2.2.1 Try.underlying49 rfl info_gr ?_) | ((with_reducible show wpList _ _ _ ((⟨_, Op.store 49 (.tmp 15) _, _, _, _, _⟩ : Oper) :: _) _ _); refine wpList_store_part rfl (n := 49) 49 (.tmp 15) (.tmp 14) rfl g2 (s * 3) (gcs g) rfl rfl H2.out.2.1 info_gr (fun v hv => GE.one g v hv) HL.out ?_) | fail)
  have hset := GE.own_set H2.out.1 H2.out.2.1 HNE.out.2.1 HG.out.1
  have hk : ∀ b, b ≠ g2 → (w2.setRow g2 (splice cur (s * 3) (gcs g)).toArray).heap[b]? = w2.heap[b]? := fun b hb => setRow_other w2 g2 b _ hb
  have cb3 : (w2.setRow g2 (splice cur (s * 3) (gcs g)).toArray).cell? ⟨w.heap.size, 0, none⟩ = some (.int .i64 a.boot) := (World.cell?_of_block (w := w2) (hk w.heap.size (fun e => HNE.out.1.2.1 e.symm))).trans H2.out.2.2.2.2.1
  have H3 : Hid (GE.Own (w2.setRow g2 (splice cur (s * 3) (gcs g)).toArray) w1.heap.size (some ⟨g2, 0, none⟩) n c2 (a.gs.set s g) ∧ Whole (w2.setRow g2 (splice cur (s * 3) (gcs g)).toArray) (w.heap.size + 1 + 1) 30 az ∧ Below w.heap.size w (w2.setRow g2 (splice cur (s * 3) (gcs g)).toArray)) := Lib.hid ⟨hset, H2.out.2.2.2.1.keep (hk _ (fun e => HNE.out.1.1 e.symm)), below_row H2.out.2.2.2.2.2 HNE.out.1.2.2 _⟩
  clear hset hk H2 HL
  generalize w2.setRow g2 (splice cur (s * 3) (gcs g)).toArray = w3 at *
  have HS := Lib.hid (And.intro hc2 hn)
  go_wp2_with (first | ((with_reducible show wpList _ _ _ ((⟨_, Op.build 30 _, _, _, _, _⟩ : Oper) :: _) _ _); refine wpList_built rfl _ rfl [(0, .int .i64 a.boot), (1, .slice (some ⟨g2, 0, none⟩) n c2)] rfl (acs a.boot (some ⟨g2, 0, none⟩) n c2).toList (built_aa _ _ _ _) ?_) | ((with_reducible show wpList _ _ _ ((⟨_, Op.store 30 (.tmp 6) _, _, _, _, _⟩ : Oper) :: _) _ _); refine wpList_store_row rfl 30 (.tmp 6) (.tmp 19) rfl (w.heap.size + 1 + 1) (acs a.boot (some ⟨g2, 0, none⟩) n c2) rfl rfl 30 _ H3.out.2.1 info_acc rfl (by simp [acs, Value.oneCell']) ?_) | fail)
  refine bodyPost_ret (results_one_cell rfl _ _ _ _ rfl (run_loadVar_row _ _ _ _ _ (0, 0) _ (H3.out.2.1.row (acs a.boot (some ⟨g2, 0, none⟩) n c2)) Try.underlying30 rfl info_acc)) rfl ?_
  refine ⟨_, rfl, ⟨some ⟨g2, 0, none⟩, n, c2, rfl, ?_, HNE.out.2.2, HB.out, HS.out.2⟩, below_row H3.out.2.2 (by omega) _⟩
  have h1 := H3.out.1.row
  have e : (Gt.put a (s : Int) g).gs = a.gs.set s g := by simp [Gt.put]
  rw [e]
  exact (h1.keep (by simp [World.setRow]) (fun b _ hb => setRow_other w3 (w.heap.size + 1 + 1) b _ (by have := H1.out.2.2.1.lt; omega))).any
end Go.Proofs.Ytalfcaepobbdeaa
