/-
  The walk of plans that need less (DriftLess).
-/
import Derived.Test.YtfjdjhjhpphogaaEl
namespace Go.Proofs.Ytfjdjhjhpphogaa
set_option linter.unusedVariables false
set_option linter.unusedSimpArgs false
set_option maxRecDepth 20000
open Go.RowKit
set_option maxHeartbeats 16000000 in
theorem less_walk (C : Array Value) (p : Dr.P) (s m : Int) (w : World) (h : Cc w (· < w.heap.size) C p) (hs : 0 ≤ s) (hs' : s < 256) (hm : 0 ≤ m) (hm' : m < 65536) :
    Calls Try.prog 9 #[.agg C, .int .u8 s, .int .u16 m] w fun e w' => e = .returned (.bool true) ∧ Below w.heap.size w w' := by
  have HC := Lib.hid h
  have h11 := h.size
  have HQ := Lib.hid h.five
  have bx := Box.new h
  have bb := below_alloc w (.cells C 25)
  obtain ⟨w0, h0⟩ : ∃ w0, w.alloc (.cells C 25) = w0 := ⟨_, rfl⟩
  rw [h0] at bx bb
  have HB : Hid (Box w0 (fun _ => True) w.heap.size C p ∧ Below w.heap.size w w0) := Lib.hid ⟨bx.weak fun _ _ => trivial, bb⟩
  have H0 := Lib.hid h0
  clear h bx bb h0
  by_cases hf : few p = true
  case neg =>
    have HF : Hid (few p = false) := Lib.hid (by simpa using hf)
    clear hf
    go_enter Try.func9, Try.ntmps9
    go_upto_region 1 with fail
    rw [H0.out]
    go_wp2_with fail
    (refine (awake_any _).mono ?_; rintro e wn ⟨rfl, hbn⟩; have HB := Lib.hid (And.intro ((HB.out.1.on hbn).weak (fun _ _ => trivial)) (HB.out.2.trans (hbn.mono HB.out.2.size))); clear hbn)
    go_wp2_with ((with_reducible show wpList _ _ _ ((⟨some 12, Op.load 25 _, _, _, _, _⟩ : Oper) :: _) _ _); refine wpList_load_row rfl _ (.tmp 3) rfl w.heap.size rfl 25 C (0, 0) _ HB.out.1.1 Try.underlying25 rfl (by rw [h11]; exact info11) ?_)
    (refine (few_any HB.out.1.2).mono ?_; rintro e wn ⟨rfl, hbn⟩; rw [HF.out]; have HB := Lib.hid (And.intro ((HB.out.1.on hbn).weak (fun _ _ => trivial)) (HB.out.2.trans (hbn.mono HB.out.2.size))); clear hbn)
    go_wp2
    go_ret
    exact ⟨rfl, HB.out.2⟩
  have HF := Lib.hid hf
  clear hf
  by_cases hok : p.ok
  case neg =>
    have HK := Lib.hid (Dr.P.chk_no hok)
    clear hok
    go_enter Try.func9, Try.ntmps9
    go_upto_region 1 with fail
    rw [H0.out]
    go_wp2_with fail
    (refine (awake_any _).mono ?_; rintro e wn ⟨rfl, hbn⟩; have HB := Lib.hid (And.intro ((HB.out.1.on hbn).weak (fun _ _ => trivial)) (HB.out.2.trans (hbn.mono HB.out.2.size))); clear hbn)
    go_wp2_with ((with_reducible show wpList _ _ _ ((⟨some 12, Op.load 25 _, _, _, _, _⟩ : Oper) :: _) _ _); refine wpList_load_row rfl _ (.tmp 3) rfl w.heap.size rfl 25 C (0, 0) _ HB.out.1.1 Try.underlying25 rfl (by rw [h11]; exact info11) ?_)
    (refine (few_any HB.out.1.2).mono ?_; rintro e wn ⟨rfl, hbn⟩; rw [HF.out]; have HB := Lib.hid (And.intro ((HB.out.1.on hbn).weak (fun _ _ => trivial)) (HB.out.2.trans (hbn.mono HB.out.2.size))); clear hbn)
    go_wp2_with ((with_reducible show wpList _ _ _ ((⟨some 16, Op.load 25 _, _, _, _, _⟩ : Oper) :: _) _ _); refine wpList_load_rowG (by rfl) _ (.tmp 3) rfl w.heap.size rfl 25 C (0, 0) _ HB.out.1.1 Try.underlying25 rfl (by rw [h11]; exact info11) ?_)
    (refine (check_any HB.out.1.2).mono ?_; rintro e wn ⟨rfl, hbn⟩; rw [HK.out]; have HB := Lib.hid (And.intro ((HB.out.1.on hbn).weak (fun _ _ => trivial)) (HB.out.2.trans (hbn.mono HB.out.2.size))); clear hbn)
    go_wp2
    go_ret
    exact ⟨rfl, HB.out.2⟩
  have HK := Lib.hid (Dr.P.chk_ok hok)
  have HO := Lib.hid hok
  clear hok
  obtain ⟨a, n, c, a', n', c', hCe, hnc, hnc', hmx, hsn, hdn, hp⟩ := HC.out
  have htop := Dr.P.top_lo HO.out.2.2.2.2.2.2.1 HO.out.1
  have hnt : (n' : Int) = p.top + 1 := by rw [← hdn.1]; exact HO.out.2.2.2.2.2.2.2.1.1
  have n0 : 1 ≤ n' := by omega
  have n4 : n' ≤ 4 := by omega
  obtain ⟨b', o', rfl, hbS, hbw, hbc⟩ := hdn.cells (by omega)
  have HX := Lib.hid (And.intro hCe (And.intro hsn (And.intro hdn (And.intro hp (And.intro hbw (And.intro hbc (And.intro hnt hnc)))))))
  clear hCe hsn hdn hp hbS hbw hbc htop hnt hnc hnc' hmx
  go_enter Try.func9, Try.ntmps9
  go_upto_region 1 with fail
  rw [H0.out]
  go_wp2_with fail
  (refine (awake_any _).mono ?_; rintro e wn ⟨rfl, hbn⟩; have HB := Lib.hid (And.intro ((HB.out.1.on hbn).weak (fun _ _ => trivial)) (HB.out.2.trans (hbn.mono HB.out.2.size))); clear hbn)
  go_wp2_with ((with_reducible show wpList _ _ _ ((⟨some 12, Op.load 25 _, _, _, _, _⟩ : Oper) :: _) _ _); refine wpList_load_row rfl _ (.tmp 3) rfl w.heap.size rfl 25 C (0, 0) _ HB.out.1.1 Try.underlying25 rfl (by rw [h11]; exact info11) ?_)
  (refine (few_any HB.out.1.2).mono ?_; rintro e wn ⟨rfl, hbn⟩; rw [HF.out]; have HB := Lib.hid (And.intro ((HB.out.1.on hbn).weak (fun _ _ => trivial)) (HB.out.2.trans (hbn.mono HB.out.2.size))); clear hbn)
  go_wp2_with ((with_reducible show wpList _ _ _ ((⟨some 16, Op.load 25 _, _, _, _, _⟩ : Oper) :: _) _ _); refine wpList_load_rowG (by rfl) _ (.tmp 3) rfl w.heap.size rfl 25 C (0, 0) _ HB.out.1.1 Try.underlying25 rfl (by rw [h11]; exact info11) ?_)
  (refine (check_any HB.out.1.2).mono ?_; rintro e wn ⟨rfl, hbn⟩; rw [HK.out]; have HB := Lib.hid (And.intro ((HB.out.1.on hbn).weak (fun _ _ => trivial)) (HB.out.2.trans (hbn.mono HB.out.2.size))); clear hbn)
  have K0 : Kp w wn [(w.heap.size, 25, C)] := ⟨HB.out.2, by simp, fun x hx => by
    simp only [List.mem_cons, List.not_mem_nil, or_false] at hx
    subst hx
    exact ⟨Nat.le_refl _, HB.out.1.1⟩⟩
  have hall := HC.out.all
  obtain ⟨zc, hzc⟩ : ∃ zc : Array Value, #[.int .i64 0, .int .i64 0, .int .i64 0, .int .i64 0, .int .i64 0, .int .i64 0, .int .i64 0, .slice none 0 0, .slice none 0 0, .int .i64 0, .int .i64 0] = zc := ⟨_, rfl⟩
  have hz11 : zc.size = 11 := by rw [← hzc]; rfl
  have bA : Below wn.heap.size wn ((wn.alloc (.cells zc 25)).setRow wn.heap.size C) := below_row (below_alloc wn _) (Nat.le_refl _) _
  have wA : Whole ((wn.alloc (.cells zc 25)).setRow wn.heap.size C) wn.heap.size 25 C := (Whole.new wn _ _).row C
  have KA := K0.add bA (Nat.le_refl _) wA
  have HZ := Lib.hid (And.intro hzc (And.intro hz11 hall))
  clear hzc hz11 hall bA wA K0
  obtain ⟨w5, h5⟩ : ∃ w5, (wn.alloc (.cells zc 25)).setRow wn.heap.size C = w5 := ⟨_, rfl⟩
  rw [h5] at KA
  have HA := Lib.hid (And.intro h5 KA)
  clear h5 KA
  go_upto_region 5 with (first | ((with_reducible show wpList _ _ _ ((⟨some 21, Op.load 25 _, _, _, _, _⟩ : Oper) :: _) _ _); refine wpList_load_row rfl _ (.tmp 3) rfl w.heap.size rfl 25 C (0, 0) _ HB.out.1.1 Try.underlying25 rfl (by rw [h11]; exact info11) ?_) | ((with_reducible show wpList _ _ _ ((⟨none, Op.store 25 _ _, _, _, _, _⟩ : Oper) :: _) _ _); rw [HZ.out.1]; refine wpList_store_row rfl _ (.tmp 8) (.tmp 21) rfl wn.heap.size C rfl rfl 25 zc (Whole.new wn _ zc) (by rw [h11]; exact info11) (by rw [h11, HZ.out.2.1]) HZ.out.2.2 ?_))
  rw [HA.out.1]
  generalize wn.heap.size = D at *
  -- the rows of d's needs
  have k8 : w5.cell? ⟨w.heap.size, 8, none⟩ = some (.slice (some ⟨b', o', none⟩) n' c') := ((Kp.get (L1 := [_]) HA.out.2).cell 8).trans (by rw [HX.out.1]; rfl)
  have b6 := below_alloc w5 (.cells #[] 3)
  have e6 := Whole.new w5 3 #[]
  obtain ⟨w6, h6⟩ : ∃ w6, w5.alloc (.cells #[] 3) = w6 := ⟨_, rfl⟩
  rw [h6] at b6 e6
  have k8' : w6.cell? ⟨w.heap.size, 8, none⟩ = some (.slice (some ⟨b', o', none⟩) n' c') := ((Kp.get (L1 := [_]) (HA.out.2.old b6)).cell 8).trans (by rw [HX.out.1]; rfl)
  have own6 : w6.ownsRow w5.heap.size 3 1 (.slice (some ⟨w5.heap.size, 0, none⟩) 0 0) 0 (ints []) := ⟨rfl, .inr ⟨_, 0, #[], rfl, Nat.le_refl _, e6, Nat.le_refl _, Nat.zero_le _, rfl, rfl⟩⟩
  obtain ⟨v7, w7, hr7, own7, gr7, _⟩ := run_append_ns w6 w5.heap.size 23 _ 0 [] own6 (· < w.heap.size) ⟨b', o', none⟩ n' c' p.needs (HX.out.2.2.1.below (HA.out.2.1.trans (b6.mono HA.out.2.1.size)) (fun _ _ h => h)) (by omega) b6.size
  rw [List.nil_append, Nat.zero_add] at own7
  have b7 : Below w5.heap.size w5 w7 := below_grown b6 gr7 b6.size (fun g hg => Nat.le_of_eq (Option.some.inj hg))
  obtain ⟨g1, cap1, cur1, rfl, hg1, hc1, hm1, hw1, hl1, hcu1⟩ := own_open own7 (by omega)
  have K7 := HA.out.2.add b7 hg1 hw1
  have d7 : w7.cell? ⟨D, 8, none⟩ = some (.slice (some ⟨b', o', none⟩) n' c') := ((Kp.get (L1 := [_]) K7).cell 8).trans (by rw [HX.out.1]; rfl)
  have f7 : w7.frozen? ⟨D, 8, none⟩ = false := (Kp.get (L1 := [_]) K7).frozen 8
  have K8 := Kp.set (L1 := [_]) K7 8 (.slice (some ⟨g1, 0, none⟩) n' cap1)
  have k8a : (w5.alloc (.cells #[] 3)).cell? ⟨w.heap.size, 8, none⟩ = some (.slice (some ⟨b', o', none⟩) n' c') := by rw [h6]; exact k8'
  clear k8'
  have H7 := Lib.hid (And.intro h6 (And.intro hr7 (And.intro K8 (And.intro hl1 hcu1))))
  clear h6 hr7 K8 K7 hw1 hcu1 own7 gr7 own6 b6 e6 b7 hg1
  go_upto_region 6 with ((with_reducible show wpList _ _ _ ((⟨some 25, _, _, _, _, _⟩ : Oper) :: _) _ _); rw [H7.out.1]; refine wpList_append_run rfl (.tmp 22) (.tmp 24) _ _ rfl rfl _ _ _ w7 rfl rfl H7.out.2.1 ?_)
  clear k8 k8a d7 f7
  obtain ⟨w8, h8⟩ : ∃ w8, w7.setCell ⟨D, 8, none⟩ (.slice (some ⟨g1, 0, none⟩) n' cap1) = w8 := ⟨_, rfl⟩
  obtain ⟨C1, hC1⟩ : ∃ C1, C.setIfInBounds 8 (.slice (some ⟨g1, 0, none⟩) n' cap1) = C1 := ⟨_, rfl⟩
  have K8 := H7.out.2.2.1
  rw [h8, hC1] at K8
  rw [h8]
  have hC1' : C1 = (pc (ep p p.needs) (.slice a n c) (.slice (some ⟨g1, 0, none⟩) n' cap1)).toArray := by rw [← hC1, HX.out.1]; rfl
  have H8 := Lib.hid (And.intro K8 (And.intro hC1' (And.intro H7.out.2.2.2.1 H7.out.2.2.2.2)))
  clear K8 hC1' hC1 h8 H7
  have d8 : w8.cell? ⟨D, 8, none⟩ = some (.slice (some ⟨g1, 0, none⟩) n' cap1) := ((Kp.get (L1 := [_]) H8.out.1).cell 8).trans (by rw [H8.out.2.1]; rfl)
  obtain ⟨k, hk⟩ : ∃ k : Nat, s % (n' : Int) = (k : Int) := ⟨(s % (n' : Int)).toNat, (Int.toNat_of_nonneg (Int.emod_nonneg _ (by omega))).symm⟩
  have hkn : k < n' := by have := Int.emod_lt_of_pos s (show (0 : Int) < (n' : Int) by omega); omega
  obtain ⟨y, hy⟩ : ∃ y, p.needs.getD k 0 = y := ⟨_, rfl⟩
  have hy01 : 0 ≤ y ∧ y ≤ 9 := by
    have h7 := HO.out.2.2.2.2.2.2.2.1.2 k (by rw [H8.out.2.2.1]; exact hkn)
    rw [hy] at h7
    have h9 := Dr.cn_hi p.stages (k : Int) p.stages.length
    have h6 := HO.out.2.2.2.2.2.2.1.1
    have h0 := HO.out.1.2
    omega
  obtain ⟨y0, y9⟩ := hy01
  have HY := Lib.hid (And.intro hk hy)
  go_upto_region 7 with fail
  rw [HY.out.1]
  have K9 := H8.out.1.drew
  have d9 : w8.drew.cell? ⟨D, 8, none⟩ = some (.slice (some ⟨g1, 0, none⟩) n' cap1) := ((Kp.get (L1 := [_]) K9).cell 8).trans (by rw [H8.out.2.1]; rfl)
  have e9 : w8.drew.cell? ⟨g1, k, none⟩ = some (.int .i64 y) := ((Kp.get (L1 := []) K9).cell k).trans (by rw [H8.out.2.2.2 k hkn, hy])
  have f9 : w8.drew.frozen? ⟨g1, k, none⟩ = false := (Kp.get (L1 := []) K9).frozen k
  obtain ⟨x, hx⟩ : ∃ x : Int, (if y - 1 < 0 then 0 else y - 1) = x := ⟨_, rfl⟩
  have ey : IntKind.i64.wrap (y - 1) = y - 1 := IntWalk.i64_in _ (by omega)
  have K10 := Kp.set (L1 := []) K9 k (.int .i64 x)
  have d10 : (w8.drew.setCell ⟨g1, k, none⟩ (.int .i64 x)).cell? ⟨D, 8, none⟩ = some (.slice (some ⟨g1, 0, none⟩) n' cap1) := ((Kp.get (L1 := [_]) K10).cell 8).trans (by rw [H8.out.2.1]; rfl)
  have q1 : (k : Int) < (n' : Int) := by omega
  have HK2 := Lib.hid (And.intro K10 (And.intro d10 hx))
  clear d8 K9 K10 d10 hx hk hy
  refine wp_region_held_drew (S := fun z => z.cell? ⟨D, 8, none⟩ = some (.slice (some ⟨g1, 0, none⟩) n' cap1)) (by kernel_rfl) d9 (fun hHeld => ?_)
  generalize w8.drew = w9 at *
  refine wpAnyH_take (i := 0) (v := .pointer (some ⟨D, 8, none⟩)) rfl (by kernel_rfl) (by kernel_rfl) (by kernel_rfl) (fun _ _ _ h => h) (Or.inl ⟨by rfl, (by intro w hSw; (try dsimp only at hSw); go_simp)⟩) (by assumption) ?_
  try simp only [Act.put, List.getElem_toArray, List.getElem_cons_zero, List.getElem_cons_succ, List.setIfInBounds_toArray, List.set_cons_zero, List.set_cons_succ]
  refine wpAnyH_take (i := 1) (v := .slice (some ⟨g1, 0, none⟩) n' cap1) rfl (by kernel_rfl) (by kernel_rfl) (by kernel_rfl) (fun _ _ _ h => h) (Or.inl ⟨by rfl, (by intro w hSw; (try dsimp only at hSw); go_simp)⟩) (by assumption) ?_
  try simp only [Act.put, List.getElem_toArray, List.getElem_cons_zero, List.getElem_cons_succ, List.setIfInBounds_toArray, List.set_cons_zero, List.set_cons_succ]
  refine wpAnyH_take (i := 2) (v := .int .i64 (k : Int)) rfl (by kernel_rfl) (by kernel_rfl) (by kernel_rfl) (fun _ _ _ h => h) (Or.inl ⟨by rfl, (by intro w hSw; (try dsimp only at hSw); go_simp)⟩) (by assumption) ?_
  try simp only [Act.put, List.getElem_toArray, List.getElem_cons_zero, List.getElem_cons_succ, List.setIfInBounds_toArray, List.set_cons_zero, List.set_cons_succ]
  refine wpAnyH_take (i := 3) (v := .pointer (some ⟨D, 8, none⟩)) rfl (by kernel_rfl) (by kernel_rfl) (by kernel_rfl) (fun _ _ _ h => h) (Or.inl ⟨by rfl, (by intro w hSw; (try dsimp only at hSw); go_simp)⟩) (by assumption) ?_
  try simp only [Act.put, List.getElem_toArray, List.getElem_cons_zero, List.getElem_cons_succ, List.setIfInBounds_toArray, List.set_cons_zero, List.set_cons_succ]
  refine wpAnyH_take (i := 4) (v := .slice (some ⟨g1, 0, none⟩) n' cap1) rfl (by kernel_rfl) (by kernel_rfl) (by kernel_rfl) (fun _ _ _ h => h) (Or.inl ⟨by rfl, (by intro w hSw; (try dsimp only at hSw); go_simp)⟩) (by assumption) ?_
  try simp only [Act.put, List.getElem_toArray, List.getElem_cons_zero, List.getElem_cons_succ, List.setIfInBounds_toArray, List.set_cons_zero, List.set_cons_succ]
  refine wpAnyH_take (i := 5) (v := .int .i64 (k : Int)) rfl (by kernel_rfl) (by kernel_rfl) (by kernel_rfl) (fun _ _ _ h => h) (Or.inl ⟨by rfl, (by intro w hSw; (try dsimp only at hSw); go_simp)⟩) (by assumption) ?_
  try simp only [Act.put, List.getElem_toArray, List.getElem_cons_zero, List.getElem_cons_succ, List.setIfInBounds_toArray, List.set_cons_zero, List.set_cons_succ]
  refine wpAnyH_take (i := 6) (v := .pointer (some ⟨g1, k, none⟩)) rfl (by kernel_rfl) (by kernel_rfl) (by kernel_rfl) (fun _ _ _ h => h) (Or.inl ⟨by rfl, (by intro w hSw; (try dsimp only at hSw); go_simp)⟩) (by assumption) ?_
  try simp only [Act.put, List.getElem_toArray, List.getElem_cons_zero, List.getElem_cons_succ, List.setIfInBounds_toArray, List.set_cons_zero, List.set_cons_succ]
  refine wpAnyH_ready (rs := [7]) (by kernel_rfl) (by simp) (AllReadyH.cons rfl (fun K hK => ?_) AllReadyH.nil)
  try simp only [List.getElem_toArray, List.getElem_cons_zero, List.getElem_cons_succ]
  go_simp
  refine hK.out _ _ d9 (fun hHeld => ?_)
  clear hK K
  try simp only [Act.put, List.getElem_toArray, List.getElem_cons_zero, List.getElem_cons_succ, List.setIfInBounds_toArray, List.set_cons_zero, List.set_cons_succ]
  refine wpAnyH_take (i := 8) (v := .int .i64 (y - 1)) rfl (by kernel_rfl) (by kernel_rfl) (by kernel_rfl) (fun _ _ _ h => h) (Or.inl ⟨by rfl, (by intro w hSw; (try dsimp only at hSw); go_simp)⟩) (by assumption) ?_
  try simp only [Act.put, List.getElem_toArray, List.getElem_cons_zero, List.getElem_cons_succ, List.setIfInBounds_toArray, List.set_cons_zero, List.set_cons_succ]
  refine wpAnyH_take (i := 9) (v := .int .i64 x) rfl (by kernel_rfl) (by kernel_rfl) (by kernel_rfl) (fun _ _ _ h => h) (Or.inl ⟨by rfl, (by intro w hSw; clear hSw; go_simp; exact HK2.out.2.2)⟩) (by assumption) ?_
  try simp only [Act.put, List.getElem_toArray, List.getElem_cons_zero, List.getElem_cons_succ, List.setIfInBounds_toArray, List.set_cons_zero, List.set_cons_succ]
  refine wpAnyH_take (i := 10) (v := .pointer (some ⟨g1, k, none⟩)) rfl (by kernel_rfl) (by kernel_rfl) (by kernel_rfl) (fun _ _ _ h => h) (Or.inl ⟨by rfl, (by intro w hSw; (try dsimp only at hSw); go_simp)⟩) (by assumption) ?_
  try simp only [Act.put, List.getElem_toArray, List.getElem_cons_zero, List.getElem_cons_succ, List.setIfInBounds_toArray, List.set_cons_zero, List.set_cons_succ]
  refine wpAnyH_ready (rs := [11]) (by kernel_rfl) (by simp) (AllReadyH.cons rfl (fun K hK => ?_) AllReadyH.nil)
  try simp only [List.getElem_toArray, List.getElem_cons_zero, List.getElem_cons_succ]
  go_simp
  refine hK.out _ _ HK2.out.2.1 (fun hHeld => ?_)
  clear hK K
  try simp only [Act.put, List.getElem_toArray, List.getElem_cons_zero, List.getElem_cons_succ, List.setIfInBounds_toArray, List.set_cons_zero, List.set_cons_succ]
  refine wpAnyH_done (by kernel_rfl) ?_ _
  clear hHeld
  obtain ⟨w10, h10⟩ : ∃ w10, w9.setCell ⟨g1, k, none⟩ (.int .i64 x) = w10 := ⟨_, rfl⟩
  obtain ⟨cur2, hc2⟩ : ∃ cur2, cur1.setIfInBounds k (.int .i64 x) = cur2 := ⟨_, rfl⟩
  have K10 : Kp w w10 [(g1, 3, cur2), (D, 25, C1), (w.heap.size, 25, C)] := by
    rw [← h10, ← hc2]; exact HK2.out.1
  rw [h10]
  have hx1 : x = max (p.needs.getD k 0 - 1) 0 := by rw [← HK2.out.2.2, HY.out.2]; split <;> omega
  have hcur : ∀ j, j < n' → cur2[j]? = some (.int .i64 ((p.needs.set k x).getD j 0)) := by
    intro j hj
    have hl := H8.out.2.2.1
    rw [← hc2, Array.getElem?_setIfInBounds]
    by_cases e : k = j
    · subst e
      have h1 : k < cur1.size := (Array.getElem?_eq_some_iff.1 (H8.out.2.2.2 k hj)).1
      rw [if_pos rfl, if_pos h1]
      have : (p.needs.set k x).getD k 0 = x := by simp [hl, hj]
      rw [this]
    · rw [if_neg e, H8.out.2.2.2 j hj]
      have : (p.needs.set k x).getD j 0 = p.needs.getD j 0 := by simp [List.getElem?_set, e]
      rw [this]
  -- the grant and the guard
  obtain ⟨g, hg⟩ : ∃ g : Int, (if 1073741824 < p.grant + m then 1073741824 else p.grant + m) = g := ⟨_, rfl⟩
  obtain ⟨u, hu⟩ : ∃ u : Int, (if 1073741824 < p.guard + m then 1073741824 else p.guard + m) = u := ⟨_, rfl⟩
  have t4 := HO.out.2.2.2.1.2.1
  have t5 := HO.out.2.2.2.1.2.2.1
  obtain ⟨t41, t42⟩ := t4
  obtain ⟨t51, t52⟩ := t5
  have hg1 : g = min (p.grant + m) 1073741824 := by rw [← hg]; split <;> omega
  have hu1 : u = min (p.guard + m) 1073741824 := by rw [← hu]; split <;> omega
  have hg64 : In64 g := by constructor <;> omega
  have hu64 : In64 u := by constructor <;> omega
  have s4 : w10.cell? ⟨w.heap.size, 4, none⟩ = some (.int .i64 p.grant) := ((Kp.get (L1 := [_, _]) K10).cell 4).trans HQ.out.2.2.1
  have d4 : w10.cell? ⟨D, 4, none⟩ = some (.int .i64 p.grant) := ((Kp.get (L1 := [_]) K10).cell 4).trans (by rw [H8.out.2.1]; rfl)
  have f4 : w10.frozen? ⟨D, 4, none⟩ = false := (Kp.get (L1 := [_]) K10).frozen 4
  have K11 := Kp.set (L1 := [_]) K10 4 (.int .i64 g)
  have s5 : (w10.setCell ⟨D, 4, none⟩ (.int .i64 g)).cell? ⟨w.heap.size, 5, none⟩ = some (.int .i64 p.guard) := ((Kp.get (L1 := [_, _]) K11).cell 5).trans HQ.out.2.2.2.1
  have d5 : (w10.setCell ⟨D, 4, none⟩ (.int .i64 g)).cell? ⟨D, 5, none⟩ = some (.int .i64 p.guard) := ((Kp.get (L1 := [_]) K11).cell 5).trans (by rw [H8.out.2.1]; rfl)
  have f5 : (w10.setCell ⟨D, 4, none⟩ (.int .i64 g)).frozen? ⟨D, 5, none⟩ = false := (Kp.get (L1 := [_]) K11).frozen 5
  have K12 := Kp.set (L1 := [_]) K11 5 (.int .i64 u)
  have hok2 : (dp p (p.needs.set k x) g u).ok := less_ok HO.out (by rw [H8.out.2.2.1]; exact hkn) hm hx1 hg1 hu1
  have hno2 := more_no HO.out
  have H10 := Lib.hid (And.intro hcur (And.intro hok2 (And.intro hno2 (And.intro hg64 (And.intro hu64 (And.intro hx1 (And.intro hg hu)))))))
  clear hcur hok2 hno2 hg64 hu64 hx1 hg1 hu1 hg hu h10 hc2 K10 K11 e9 f9 d9
  have K12' := Lib.hid K12
  clear K12
  go_upto_region 9 with fail
  rw [H10.out.2.2.2.2.2.2.1]
  go_upto_region 10 with fail
  rw [H10.out.2.2.2.2.2.2.2]
  clear s4 d4 f4 s5 d5 f5
  have K12 : Hid (Kp w ((w10.setCell ⟨D, 4, none⟩ (.int .i64 g)).setCell ⟨D, 5, none⟩ (.int .i64 u)) [(g1, 3, cur2), (D, 25, (pc (dp p (p.needs.set k x) g u) (.slice a n c) (.slice (some ⟨g1, 0, none⟩) n' cap1)).toArray), (w.heap.size, 25, C)]) := Lib.hid (by
    have := K12'.out
    rw [H8.out.2.1] at this
    exact this)
  clear K12'
  generalize (w10.setCell ⟨D, 4, none⟩ (.int .i64 g)).setCell ⟨D, 5, none⟩ (.int .i64 u) = w12 at *
  have HB : Hid (Box w12 (fun _ => True) w.heap.size C p ∧ Below w.heap.size w w12) := Lib.hid ⟨⟨Kp.get (L1 := [_, _]) K12.out, (HC.out.on K12.out.1).weak fun _ _ _ => trivial⟩, K12.out.1⟩
  have bA : Below w12.heap.size w12 ((w12.alloc (.cells zc 25)).setRow w12.heap.size C) := below_row (below_alloc w12 _) (Nat.le_refl _) _
  have wA : Whole ((w12.alloc (.cells zc 25)).setRow w12.heap.size C) w12.heap.size 25 C := (Whole.new w12 _ _).row C
  have KA := K12.out.add bA (Nat.le_refl _) wA
  clear bA wA
  obtain ⟨w13, h13⟩ : ∃ w13, (w12.alloc (.cells zc 25)).setRow w12.heap.size C = w13 := ⟨_, rfl⟩
  rw [h13] at KA
  have HA := Lib.hid (And.intro h13 KA)
  clear h13 KA
  go_upto_region 11 with (first | ((with_reducible show wpList _ _ _ ((⟨some 58, Op.load 25 _, _, _, _, _⟩ : Oper) :: _) _ _); refine wpList_load_row rfl _ (.tmp 3) rfl w.heap.size rfl 25 C (0, 0) _ HB.out.1.1 Try.underlying25 rfl (by rw [h11]; exact info11) ?_) | ((with_reducible show wpList _ _ _ ((⟨none, Op.store 25 _ _, _, _, _, _⟩ : Oper) :: _) _ _); rw [HZ.out.1]; refine wpList_store_row rfl _ (.tmp 10) (.tmp 58) rfl w12.heap.size C rfl rfl 25 zc (Whole.new w12 _ zc) (by rw [h11]; exact info11) (by rw [h11, HZ.out.2.1]) HZ.out.2.2 ?_))
  rw [HA.out.1]
  generalize w12.heap.size = E at *
  -- the rows of bad's needs
  have b14 := below_alloc w13 (.cells #[] 3)
  have e14 := Whole.new w13 3 #[]
  obtain ⟨w14, h14⟩ : ∃ w14, w13.alloc (.cells #[] 3) = w14 := ⟨_, rfl⟩
  rw [h14] at b14 e14
  have k8 : w14.cell? ⟨w.heap.size, 8, none⟩ = some (.slice (some ⟨b', o', none⟩) n' c') := ((Kp.get (L1 := [_, _, _]) (HA.out.2.old b14)).cell 8).trans (by rw [HX.out.1]; rfl)
  have own14 : w14.ownsRow w13.heap.size 3 1 (.slice (some ⟨w13.heap.size, 0, none⟩) 0 0) 0 (ints []) := ⟨rfl, .inr ⟨_, 0, #[], rfl, Nat.le_refl _, e14, Nat.le_refl _, Nat.zero_le _, rfl, rfl⟩⟩
  obtain ⟨v15, w15, hr15, own15, gr15, hv15⟩ := run_append_ns w14 w13.heap.size 23 _ 0 [] own14 (· < w.heap.size) ⟨b', o', none⟩ n' c' p.needs (HX.out.2.2.1.below (HA.out.2.1.trans (b14.mono HA.out.2.1.size)) (fun _ _ h => h)) (by omega) b14.size
  rw [List.nil_append, Nat.zero_add] at own15
  have b15 : Below w13.heap.size w13 w15 := below_grown b14 gr15 b14.size (fun g hg => Nat.le_of_eq (Option.some.inj hg))
  have b16 := below_alloc w15 (.cells (ints [0]).toArray 3)
  have e16 := Whole.new w15 3 (ints [0]).toArray
  obtain ⟨w16, h16⟩ : ∃ w16, w15.alloc (.cells (ints [0]).toArray 3) = w16 := ⟨_, rfl⟩
  rw [h16] at b16 e16
  have n16 : Ns w16 (fun _ => True) (some ⟨w15.heap.size, 0, none⟩) 1 [0] := ns_whole e16 trivial (by intro x hx; simp only [List.mem_cons, List.not_mem_nil, or_false] at hx; subst hx; constructor <;> omega)
  have b13_16 : Below w13.heap.size w13 w16 := b15.trans (b16.mono b15.size)
  obtain ⟨v17, w17, hr17, own17, gr17, _⟩ := run_append_ns w16 w13.heap.size 23 _ n' p.needs (own_below own15 b16) _ ⟨w15.heap.size, 0, none⟩ 1 1 [0] n16 (by omega) b13_16.size
  have hv15' : ∀ g, v15.ownBlock = some g → w13.heap.size ≤ g := fun g hg => by
    rcases hv15 with h | h
    · rw [h] at hg; exact Nat.le_of_eq (Option.some.inj hg)
    · rw [h] at hg; have := Option.some.inj hg; have := b14.size; omega
  have b17 : Below w13.heap.size w13 w17 := below_grown b13_16 gr17 b13_16.size hv15'
  obtain ⟨g2, cap2, cur3, rfl, hg2, hc3, hm3, hw3, hl3, hcu3⟩ := own_open own17 (by omega)
  have K17 := HA.out.2.add b17 hg2 hw3
  have d17 : w17.cell? ⟨E, 8, none⟩ = some (.slice (some ⟨b', o', none⟩) n' c') := ((Kp.get (L1 := [_]) K17).cell 8).trans (by rw [HX.out.1]; rfl)
  have f17 : w17.frozen? ⟨E, 8, none⟩ = false := (Kp.get (L1 := [_]) K17).frozen 8
  have K18 := Kp.set (L1 := [_]) K17 8 (.slice (some ⟨g2, 0, none⟩) (n' + 1) cap2)
  have k8a : (w13.alloc (.cells #[] 3)).cell? ⟨w.heap.size, 8, none⟩ = some (.slice (some ⟨b', o', none⟩) n' c') := by rw [h14]; exact k8
  have H17 := Lib.hid (And.intro h14 (And.intro hr15 (And.intro (show w15.alloc (.cells #[.int .i64 0] 3) = w16 from h16) (And.intro hr17 (And.intro K18 (And.intro hl3 hcu3))))))
  clear h14 hr15 h16 hr17 K18 K17 hl3 hcu3 hw3 own17 gr17 own15 gr15 own14 b14 e14 b15 b16 e16 n16 b13_16 hv15 hv15' b17 hg2 k8
  go_upto_region 12 with (first | ((with_reducible show wpList _ _ _ ((⟨some 62, _, _, _, _, _⟩ : Oper) :: _) _ _); rw [H17.out.1]; refine wpList_append_run rfl (.tmp 59) (.tmp 61) _ _ rfl rfl _ _ _ w15 rfl rfl H17.out.2.1 ?_) | ((with_reducible show wpList _ _ _ ((⟨some 64, _, _, _, _, _⟩ : Oper) :: _) _ _); rw [H17.out.2.2.1]; refine wpList_append_run rfl (.tmp 62) (.tmp 63) _ _ rfl rfl _ _ _ w17 rfl rfl H17.out.2.2.2.1 ?_))
  obtain ⟨w18, h18⟩ : ∃ w18, w17.setCell ⟨E, 8, none⟩ (.slice (some ⟨g2, 0, none⟩) (n' + 1) cap2) = w18 := ⟨_, rfl⟩
  have K18 := H17.out.2.2.2.2.1
  rw [h18] at K18
  rw [h18]
  have hxin : In64 x := by have := HK2.out.2.2; rw [← this]; constructor <;> split <;> omega
  have hstg : Ns w18 (fun _ => True) a n p.stages := (HX.out.2.1.below K18.1 (fun _ _ h => h)).weak fun _ _ _ => trivial
  have hnd1 : Ns w18 (fun _ => True) (some ⟨g1, 0, none⟩) n' (p.needs.set k x) := ns_cur (Kp.get (L1 := [_, _]) K18) (by rw [List.length_set]; exact H8.out.2.2.1) (fun z hz => by
    rcases List.mem_or_eq_of_mem_set hz with h | h
    · exact HX.out.2.2.1.2.1 z h
    · rw [h]; exact hxin) H10.out.1
  have hnd2 : Ns w18 (fun _ => True) (some ⟨g2, 0, none⟩) (n' + 1) (p.needs ++ [0]) := ns_cur (Kp.get (L1 := []) K18) H17.out.2.2.2.2.2.1 (fun z hz => by
    rcases List.mem_append.1 hz with h | h
    · exact HX.out.2.2.1.2.1 z h
    · simp only [List.mem_cons, List.not_mem_nil, or_false] at h
      subst h
      constructor <;> omega) H17.out.2.2.2.2.2.2
  obtain ⟨pn1, pn2, pn3, pn4, pn5, pn6, pn7, pn8, pn9⟩ := HX.out.2.2.2.1
  obtain ⟨CD, hCD⟩ : ∃ CD, (pc (dp p (p.needs.set k x) g u) (.slice a n c) (.slice (some ⟨g1, 0, none⟩) n' cap1)).toArray = CD := ⟨_, rfl⟩
  obtain ⟨CE, hCE⟩ : ∃ CE, C.setIfInBounds 8 (.slice (some ⟨g2, 0, none⟩) (n' + 1) cap2) = CE := ⟨_, rfl⟩
  have ccD : Cc w18 (fun _ => True) CD (dp p (p.needs.set k x) g u) := ⟨_, _, _, _, _, _, hCD.symm, HX.out.2.2.2.2.2.2.2, hc1, hm1, hstg, hnd1, pn1, pn2, pn3, pn4, H10.out.2.2.2.1, H10.out.2.2.2.2.1, pn7, pn8, pn9⟩
  have ccE : Cc w18 (fun _ => True) CE (ep p (p.needs ++ [0])) := ⟨a, n, c, _, _, cap2, by rw [← hCE, HX.out.1]; rfl, HX.out.2.2.2.2.2.2.2, hc3, hm3, hstg, hnd2, pn1, pn2, pn3, pn4, pn5, pn6, pn7, pn8, pn9⟩
  have hwD : Whole w18 D 25 CD := by rw [← hCD]; exact Kp.get (L1 := [_, _, _]) K18
  have hwE : Whole w18 E 25 CE := by rw [← hCE]; exact Kp.get (L1 := [_]) K18
  have hwG : Whole w18 w.heap.size 25 C := Kp.get (L1 := [_, _, _, _]) K18
  have szD := ccD.size
  have szE := ccE.size
  have HP : Hid (Box w18.drew (fun _ => True) D CD (dp p (p.needs.set k x) g u) ∧ Box w18.drew (fun _ => True) E CE (ep p (p.needs ++ [0])) ∧ Box w18.drew (fun _ => True) w.heap.size C p ∧ Below w.heap.size w w18.drew) := Lib.hid ⟨⟨hwD.keep rfl, ccD.keep (Nat.le_refl _) fun _ _ _ => rfl⟩, ⟨hwE.keep rfl, ccE.keep (Nat.le_refl _) fun _ _ _ => rfl⟩, ⟨hwG.keep rfl, (HC.out.on K18.1.drew).weak fun _ _ _ => trivial⟩, K18.1.drew⟩
  have hmaj : (dp p (p.needs.set k x) g u).maj = p.maj := (if_pos H10.out.2.1).trans (if_pos HO.out).symm
  obtain ⟨M, hM⟩ : ∃ M, p.maj = M := ⟨_, rfl⟩
  have HV := Lib.hid (And.intro (Dr.P.chk_ok H10.out.2.1) (And.intro (Dr.P.chk_no H10.out.2.2.1) (And.intro (hmaj.trans hM) hM)))
  clear h18 K18 hstg hnd1 hnd2 hCD hCE ccD ccE hwD hwE hwG hmaj hM d17 f17 k8a hxin pn1 pn2 pn3 pn4 pn5 pn6 pn7 pn8 pn9
  refine wp_region_held_drew (S := fun z => Whole z D 25 CD ∧ Whole z E 25 CE ∧ Whole z w.heap.size 25 C) (by kernel_rfl) ⟨HP.out.1.1, HP.out.2.1.1, HP.out.2.2.1.1⟩ (fun hHeld => ?_)
  generalize w18.drew = w19 at *
  refine wpAnyH_take (i := 0) (v := .bool true) rfl (by kernel_rfl) (by kernel_rfl) (by kernel_rfl) (fun _ _ _ h => h) (Or.inl ⟨by rfl, (by intro w hSw; (try dsimp only at hSw); go_simp)⟩) (by assumption) ?_
  try simp only [Act.put, List.getElem_toArray, List.getElem_cons_zero, List.getElem_cons_succ, List.setIfInBounds_toArray, List.set_cons_zero, List.set_cons_succ]
  refine wpAnyH_take (i := 1) (v := .bool true) rfl (by kernel_rfl) (by kernel_rfl) (by kernel_rfl) (fun _ _ _ h => h) (Or.inl ⟨by rfl, (by intro w hSw; (try dsimp only at hSw); go_simp)⟩) (by assumption) ?_
  try simp only [Act.put, List.getElem_toArray, List.getElem_cons_zero, List.getElem_cons_succ, List.setIfInBounds_toArray, List.set_cons_zero, List.set_cons_succ]
  refine wpAnyH_take (i := 2) (v := .agg CD) rfl (by kernel_rfl) (by kernel_rfl) (by kernel_rfl) (fun _ _ _ h => h) (yields_plan (by rfl) _ rfl _ rfl _ (fun w h => h.1) szD) (by assumption) ?_
  try simp only [Act.put, List.getElem_toArray, List.getElem_cons_zero, List.getElem_cons_succ, List.setIfInBounds_toArray, List.set_cons_zero, List.set_cons_succ]
  refine wpAnyH_ready (rs := [3]) (by kernel_rfl) (by simp) (AllReadyH.cons rfl (fun K hK => ?_) AllReadyH.nil)
  try simp only [List.getElem_toArray, List.getElem_cons_zero, List.getElem_cons_succ]
  go_simp
  go_at_call 12
  refine (check_any HP.out.1.2).mono ?_
  rintro e wn ⟨rfl, hbn⟩
  rw [HV.out.1]
  refine hK.out _ _ ⟨HP.out.1.1.below hbn HP.out.1.1.lt, HP.out.2.1.1.below hbn HP.out.2.1.1.lt, HP.out.2.2.1.1.below hbn HP.out.2.2.1.1.lt⟩ (fun hHeld => ?_)
  clear hK K
  try simp only [Act.put, List.getElem_toArray, List.getElem_cons_zero, List.getElem_cons_succ, List.setIfInBounds_toArray, List.set_cons_zero, List.set_cons_succ]
  have HP := Lib.hid (And.intro ((HP.out.1.on hbn).weak (fun _ _ => trivial)) (And.intro ((HP.out.2.1.on hbn).weak (fun _ _ => trivial)) (And.intro ((HP.out.2.2.1.on hbn).weak (fun _ _ => trivial)) (HP.out.2.2.2.trans (hbn.mono HP.out.2.2.2.size)))))
  clear hbn
  refine wpAnyH_take (i := 4) (v := .bool true) rfl (by kernel_rfl) (by kernel_rfl) (by kernel_rfl) (fun _ _ _ h => h) (Or.inl ⟨by rfl, (by intro w hSw; clear hSw; go_simp)⟩) (by assumption) ?_
  try simp only [Act.put, List.getElem_toArray, List.getElem_cons_zero, List.getElem_cons_succ, List.setIfInBounds_toArray, List.set_cons_zero, List.set_cons_succ]
  refine wpAnyH_take (i := 5) (v := .bool true) rfl (by kernel_rfl) (by kernel_rfl) (by kernel_rfl) (fun _ _ _ h => h) (Or.inl ⟨by rfl, (by intro w hSw; (try dsimp only at hSw); go_simp)⟩) (by assumption) ?_
  try simp only [Act.put, List.getElem_toArray, List.getElem_cons_zero, List.getElem_cons_succ, List.setIfInBounds_toArray, List.set_cons_zero, List.set_cons_succ]
  refine wpAnyH_take (i := 6) (v := .bool true) rfl (by kernel_rfl) (by kernel_rfl) (by kernel_rfl) (fun _ _ _ h => h) (Or.inl ⟨by rfl, (by intro w hSw; (try dsimp only at hSw); go_simp)⟩) (by assumption) ?_
  try simp only [Act.put, List.getElem_toArray, List.getElem_cons_zero, List.getElem_cons_succ, List.setIfInBounds_toArray, List.set_cons_zero, List.set_cons_succ]
  refine wpAnyH_take (i := 7) (v := .agg CE) rfl (by kernel_rfl) (by kernel_rfl) (by kernel_rfl) (fun _ _ _ h => h) (yields_plan (by rfl) _ rfl _ rfl _ (fun w h => h.2.1) szE) (by assumption) ?_
  try simp only [Act.put, List.getElem_toArray, List.getElem_cons_zero, List.getElem_cons_succ, List.setIfInBounds_toArray, List.set_cons_zero, List.set_cons_succ]
  refine wpAnyH_ready (rs := [8]) (by kernel_rfl) (by simp) (AllReadyH.cons rfl (fun K hK => ?_) AllReadyH.nil)
  try simp only [List.getElem_toArray, List.getElem_cons_zero, List.getElem_cons_succ]
  go_simp
  go_at_call 12
  refine (check_any HP.out.2.1.2).mono ?_
  rintro e wn ⟨rfl, hbn⟩
  rw [HV.out.2.1]
  refine hK.out _ _ ⟨HP.out.1.1.below hbn HP.out.1.1.lt, HP.out.2.1.1.below hbn HP.out.2.1.1.lt, HP.out.2.2.1.1.below hbn HP.out.2.2.1.1.lt⟩ (fun hHeld => ?_)
  clear hK K
  try simp only [Act.put, List.getElem_toArray, List.getElem_cons_zero, List.getElem_cons_succ, List.setIfInBounds_toArray, List.set_cons_zero, List.set_cons_succ]
  have HP := Lib.hid (And.intro ((HP.out.1.on hbn).weak (fun _ _ => trivial)) (And.intro ((HP.out.2.1.on hbn).weak (fun _ _ => trivial)) (And.intro ((HP.out.2.2.1.on hbn).weak (fun _ _ => trivial)) (HP.out.2.2.2.trans (hbn.mono HP.out.2.2.2.size)))))
  clear hbn
  refine wpAnyH_take (i := 9) (v := .bool true) rfl (by kernel_rfl) (by kernel_rfl) (by kernel_rfl) (fun _ _ _ h => h) (Or.inl ⟨by rfl, (by intro w hSw; clear hSw; go_simp)⟩) (by assumption) ?_
  try simp only [Act.put, List.getElem_toArray, List.getElem_cons_zero, List.getElem_cons_succ, List.setIfInBounds_toArray, List.set_cons_zero, List.set_cons_succ]
  refine wpAnyH_take (i := 10) (v := .bool true) rfl (by kernel_rfl) (by kernel_rfl) (by kernel_rfl) (fun _ _ _ h => h) (Or.inl ⟨by rfl, (by intro w hSw; (try dsimp only at hSw); go_simp)⟩) (by assumption) ?_
  try simp only [Act.put, List.getElem_toArray, List.getElem_cons_zero, List.getElem_cons_succ, List.setIfInBounds_toArray, List.set_cons_zero, List.set_cons_succ]
  refine wpAnyH_take (i := 11) (v := .bool true) rfl (by kernel_rfl) (by kernel_rfl) (by kernel_rfl) (fun _ _ _ h => h) (Or.inl ⟨by rfl, (by intro w hSw; (try dsimp only at hSw); go_simp)⟩) (by assumption) ?_
  try simp only [Act.put, List.getElem_toArray, List.getElem_cons_zero, List.getElem_cons_succ, List.setIfInBounds_toArray, List.set_cons_zero, List.set_cons_succ]
  refine wpAnyH_take (i := 12) (v := .agg CD) rfl (by kernel_rfl) (by kernel_rfl) (by kernel_rfl) (fun _ _ _ h => h) (yields_plan (by rfl) _ rfl _ rfl _ (fun w h => h.1) szD) (by assumption) ?_
  try simp only [Act.put, List.getElem_toArray, List.getElem_cons_zero, List.getElem_cons_succ, List.setIfInBounds_toArray, List.set_cons_zero, List.set_cons_succ]
  refine wpAnyH_take (i := 14) (v := .agg C) rfl (by kernel_rfl) (by kernel_rfl) (by kernel_rfl) (fun _ _ _ h => h) (yields_plan (by rfl) _ rfl _ rfl _ (fun w h => h.2.2) h11) (by assumption) ?_
  try simp only [Act.put, List.getElem_toArray, List.getElem_cons_zero, List.getElem_cons_succ, List.setIfInBounds_toArray, List.set_cons_zero, List.set_cons_succ]
  refine wpAnyH_ready (rs := [13]) (by kernel_rfl) (by simp) (AllReadyH.cons rfl (fun K hK => ?_) AllReadyH.nil)
  try simp only [List.getElem_toArray, List.getElem_cons_zero, List.getElem_cons_succ]
  go_simp
  go_at_call 14
  refine (majority_any HP.out.1.2).mono ?_
  rintro e wn ⟨rfl, hbn⟩
  rw [HV.out.2.2.1]
  refine hK.out _ _ ⟨HP.out.1.1.below hbn HP.out.1.1.lt, HP.out.2.1.1.below hbn HP.out.2.1.1.lt, HP.out.2.2.1.1.below hbn HP.out.2.2.1.1.lt⟩ (fun hHeld => ?_)
  clear hK K
  try simp only [Act.put, List.getElem_toArray, List.getElem_cons_zero, List.getElem_cons_succ, List.setIfInBounds_toArray, List.set_cons_zero, List.set_cons_succ]
  have HP := Lib.hid (And.intro ((HP.out.1.on hbn).weak (fun _ _ => trivial)) (And.intro ((HP.out.2.1.on hbn).weak (fun _ _ => trivial)) (And.intro ((HP.out.2.2.1.on hbn).weak (fun _ _ => trivial)) (HP.out.2.2.2.trans (hbn.mono HP.out.2.2.2.size)))))
  clear hbn
  refine wpAnyH_ready (rs := [15]) (by kernel_rfl) (by simp) (AllReadyH.cons rfl (fun K hK => ?_) AllReadyH.nil)
  try simp only [List.getElem_toArray, List.getElem_cons_zero, List.getElem_cons_succ]
  go_simp
  go_at_call 14
  refine (majority_any HP.out.2.2.1.2).mono ?_
  rintro e wn ⟨rfl, hbn⟩
  rw [HV.out.2.2.2]
  refine hK.out _ _ ⟨HP.out.1.1.below hbn HP.out.1.1.lt, HP.out.2.1.1.below hbn HP.out.2.1.1.lt, HP.out.2.2.1.1.below hbn HP.out.2.2.1.1.lt⟩ (fun hHeld => ?_)
  clear hK K
  try simp only [Act.put, List.getElem_toArray, List.getElem_cons_zero, List.getElem_cons_succ, List.setIfInBounds_toArray, List.set_cons_zero, List.set_cons_succ]
  have HP := Lib.hid (And.intro ((HP.out.1.on hbn).weak (fun _ _ => trivial)) (And.intro ((HP.out.2.1.on hbn).weak (fun _ _ => trivial)) (And.intro ((HP.out.2.2.1.on hbn).weak (fun _ _ => trivial)) (HP.out.2.2.2.trans (hbn.mono HP.out.2.2.2.size)))))
  clear hbn
  refine wpAnyH_take (i := 16) (v := .bool true) rfl (by kernel_rfl) (by kernel_rfl) (by kernel_rfl) (fun _ _ _ h => h) (Or.inl ⟨by rfl, (by intro w hSw; clear hSw; go_simp)⟩) (by assumption) ?_
  try simp only [Act.put, List.getElem_toArray, List.getElem_cons_zero, List.getElem_cons_succ, List.setIfInBounds_toArray, List.set_cons_zero, List.set_cons_succ]
  refine wpAnyH_take (i := 17) (v := .bool true) rfl (by kernel_rfl) (by kernel_rfl) (by kernel_rfl) (fun _ _ _ h => h) (Or.inl ⟨by rfl, (by intro w hSw; (try dsimp only at hSw); go_simp)⟩) (by assumption) ?_
  try simp only [Act.put, List.getElem_toArray, List.getElem_cons_zero, List.getElem_cons_succ, List.setIfInBounds_toArray, List.set_cons_zero, List.set_cons_succ]
  refine wpAnyH_take (i := 18) (v := .bool true) rfl (by kernel_rfl) (by kernel_rfl) (by kernel_rfl) (fun _ _ _ h => h) (Or.inl ⟨by rfl, (by intro w hSw; (try dsimp only at hSw); go_simp)⟩) (by assumption) ?_
  try simp only [Act.put, List.getElem_toArray, List.getElem_cons_zero, List.getElem_cons_succ, List.setIfInBounds_toArray, List.set_cons_zero, List.set_cons_succ]
  refine wpAnyH_done (by kernel_rfl) ?_ _
  go_wp2
  go_ret
  exact ⟨rfl, HP.out.2.2.2⟩
end Go.Proofs.Ytfjdjhjhpphogaa
