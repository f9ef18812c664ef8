/-
  The walks of the document's Grant of leases, and of Same, where two are one.
-/
import Derived.Test.YtegdopbiiddamaaS3
namespace Go.Proofs.Ytegdopbiiddamaa
open Go.RowKit Go.Great
set_option linter.unusedVariables false
set_option linter.unusedSimpArgs false
set_option maxRecDepth 20000
set_option maxHeartbeats 4000000 in
theorem rnsame_any {S S' : Nat → Prop} {a b : Option Addr} {n c d : Nat} {l : List Int} {w : World} (h : Ns w S a n l) (h' : Ns w S' b n l) (hn : n ≤ 1000000) :
    Calls Try.prog 29 #[.slice a n c, .slice b n d] w fun e w' => e = .returned (.bool true) ∧ Below w.heap.size w w' := by
  have H0 : Hid (Ns w S a n l ∧ Ns w S' b n l ∧ ∃ q, w = w.drewN q) := Lib.hid ⟨h, h', 0, rfl⟩
  clear h h'
  have q0 : (n != n) = false := by simp
  have q0' : ((n : Int) != (n : Int)) = false := by simp
  go_enter Try.func29, Try.ntmps29
  go_wp2
  go_loopw [5] (fun v wr => ∃ k : Nat, k ≤ n ∧ v = .int .i64 (k : Int) ∧ Hid (Ns wr S a n l ∧ Ns wr S' b n l ∧ ∃ q, wr = w.drewN q)) (fun v _ => n - (intOf v).toNat)
  case atStart => exact ⟨0, Nat.zero_le _, rfl, H0⟩
  case round =>
    clear H0
    obtain ⟨k, hk, rfl, HB⟩ := hrel
    by_cases hlt : k < n
    · obtain ⟨x, hx⟩ : ∃ x, l.getD k 0 = x := ⟨_, rfl⟩
      obtain ⟨ga, oa, ha, _, _, ca⟩ := HB.out.1.cells (by omega)
      obtain ⟨gb, ob, hb, _, _, cb⟩ := HB.out.2.1.cells (by omega)
      have ca' : wr.cell? ⟨ga, oa + k, none⟩ = some (.int .i64 x) := by rw [ca k hlt, hx]
      have cb' : wr.cell? ⟨gb, ob + k, none⟩ = some (.int .i64 x) := by rw [cb k hlt, hx]
      subst ha hb
      have q1 : (k : Int) < (n : Int) := by omega
      have q2 : (x != x) = false := by simp
      clear ca cb hx
      go_wp2
      go_quiet (fail)
      go_wp2
      go_roundw
      case rel => exact ⟨k + 1, by omega, by go_num, Lib.hid ⟨HB.out.1.keep (Nat.le_refl _) (fun _ _ _ => rfl), HB.out.2.1.keep (Nat.le_refl _) (fun _ _ _ => rfl), by obtain ⟨q, hq⟩ := HB.out.2.2; exact ⟨q + nq, by rw [hq]; simp [World.drewN, Nat.add_assoc]⟩⟩⟩
      case measure => simp [intOf]; omega
    · have q1 : ¬ ((k : Int) < (n : Int)) := by omega
      go_wp2
      go_ret
      obtain ⟨q, hq⟩ := HB.out.2.2
      exact ⟨rfl, by rw [hq]; exact ⟨rfl, rfl, rfl, Nat.le_refl _, fun _ _ => rfl⟩⟩
def lz : Array Value := lcs 0 0 0 none 0 0
theorem lz_is : lz = #[.int .i64 0, .int .i64 0, .int .i64 0, .slice none 0 0] := rfl
set_option maxHeartbeats 8000000 in
theorem rlgrant_any {w : World} {S : Nat → Prop} {C V : Array Value} {p : Dr.P} {l : Ln.L} (h : Cc w S C p) (ha : Lse w V l) (hn : l.fr.length ≤ 1000) (node slot nonce : Int) (hnode : In64 node) : Calls Try.prog 12 #[.agg C, .agg V, .int .i64 node, .int .i64 slot, .int .i64 nonce] w (LseQ w (Ln.grant p l node slot nonce)) := by
  have h11 := h.size
  obtain ⟨w1, hw1, hk⟩ := boxes_pl h ha
  have hs1 : w1.heap.size = w.heap.size + 1 + 1 := by rw [← hw1, size_alloc, size_alloc]
  have hz := Whole.new w1 26 lz
  rw [hs1] at hz
  obtain ⟨w2, hw2⟩ : ∃ w2, w1.alloc (.cells lz 26) = w2 := ⟨_, rfl⟩
  have hk2 := hk.on (below_alloc w1 (.cells lz 26))
  rw [hw2] at hz hk2
  have HW : Hid (((w.alloc (.cells C 24)).alloc (.cells V 26)).alloc (.cells lz 26) = w2) := Lib.hid (by rw [hw1, hw2])
  obtain ⟨ad, n, c, rfl, hrow, hnc, hq⟩ := ha
  have HK : Hid (Cls w w2 C (lcs l.slot l.nonce l.asked ad n c) p l ∧ Whole w2 (w.heap.size + 1 + 1) 26 lz ∧ Ns w2 (fun b => b < w.heap.size) ad n l.fr) := Lib.hid ⟨hk2, hz, hrow.old.below hk2.below (fun _ _ h => h)⟩
  have HN : Hid (n ≤ 1000) := Lib.hid (by rw [← hrow.1]; exact hn)
  have HQ : Hid (n ≤ c ∧ In64 l.slot ∧ In64 l.nonce ∧ In64 l.asked) := Lib.hid ⟨hnc, hq⟩
  have HL := Lib.hid (And.intro hrow.1 hrow.2.1)
  obtain ⟨t, ht⟩ : ∃ t, Ln.grant p l node slot nonce = t := ⟨_, rfl⟩
  rw [ht]
  have HNO : Hid (¬ Ln.takes p l node slot nonce → t = l) := Lib.hid fun hno => by rw [← ht]; exact if_neg hno
  have HYES : Hid (Ln.takes p l node slot nonce → t = { l with fr := l.fr ++ [node] }) := Lib.hid fun hy => by rw [← ht]; exact if_pos hy
  have HI := Lib.hid hnode
  clear h hw1 hk hs1 hz hw2 hk2 hrow hn ht hq hnc hnode
  go_enter Try.func12, Try.ntmps12
  go_upto_region 1 with fail
  rw [← lz_is, HW.out]
  have s3 : w2.cell? ⟨w.heap.size + 1, 3, none⟩ = some (.slice ad n c) := HK.out.1.lb.1.cell 3
  go_wp2_with fail
  refine (rin_any (w := w2) HK.out.2.2 (by have := HN.out; omega) node).mono ?_
  rintro e w3 ⟨rfl, hb⟩
  have HK : Hid (Cls w w3 C (lcs l.slot l.nonce l.asked ad n c) p l ∧ Whole w3 (w.heap.size + 1 + 1) 26 lz ∧ Ns w3 (fun b => b < w.heap.size) ad n l.fr) := Lib.hid ⟨HK.out.1.on hb, HK.out.2.1.below hb HK.out.2.1.lt, HK.out.2.2.below hb (fun _ h _ => h)⟩
  clear hb s3
  obtain ⟨b0, hb0⟩ : ∃ b, decide (node ∈ l.fr) = b := ⟨_, rfl⟩
  have HB := Lib.hid hb0
  rw [hb0]
  clear hb0
  go_wp2_with (first | ((with_reducible show wpList _ _ _ ((⟨some 16, Op.load 24 (.tmp 5), _, _, _, _⟩ : Oper) :: _) _ _); refine wpList_load_rowG (by rfl) _ (.tmp 5) rfl w.heap.size rfl 24 C (0, 0) _ HK.out.1.pl.1 Try.underlying24 rfl (by rw [h11]; exact info11) ?_) | fail)
  refine (rcheck_any HK.out.1.pl.2).mono ?_
  rintro e w4 ⟨rfl, hb⟩
  have HK : Hid (Cls w w4 C (lcs l.slot l.nonce l.asked ad n c) p l ∧ Whole w4 (w.heap.size + 1 + 1) 26 lz ∧ Ns w4 (fun b => b < w.heap.size) ad n l.fr) := Lib.hid ⟨HK.out.1.on hb, HK.out.2.1.below hb HK.out.2.1.lt, HK.out.2.2.below hb (fun _ h _ => h)⟩
  clear hb
  by_cases hok : p.ok
  case neg =>
    have HE : Hid (t = l) := Lib.hid (HNO.out fun h => hok h.1)
    rw [Dr.P.chk_no hok]
    clear hok
    go_wp2_with (first | ((with_reducible show wpList _ _ _ ((⟨some 44, Op.load 26 (.tmp 6), _, _, _, _⟩ : Oper) :: _) _ _); refine wpList_load_rowG (by rfl) _ (.tmp 6) rfl (w.heap.size + 1) rfl 26 (lcs l.slot l.nonce l.asked ad n c) (0, 0) _ HK.out.1.lb.1 Try.underlying26 rfl info_ls ?_) | ((with_reducible show wpList _ _ _ ((⟨_, Op.store 26 (.tmp 10) _, _, _, _, _⟩ : Oper) :: _) _ _); refine wpList_store_row rfl 26 (.tmp 10) (.tmp 44) rfl (w.heap.size + 1 + 1) (lcs l.slot l.nonce l.asked ad n c) rfl rfl 26 _ HK.out.2.1 info_ls rfl (by simp [lcs, Value.oneCell']) ?_) | fail)
    refine bodyPost_ret (results_one_cell rfl _ _ _ _ rfl (run_loadVar_row _ _ _ _ _ (0, 0) _ (HK.out.2.1.row (lcs l.slot l.nonce l.asked ad n c)) Try.underlying26 rfl info_ls)) rfl ?_
    rw [HE.out]
    refine ⟨_, rfl, ⟨ad, n, c, rfl, ?_, HQ.out⟩, below_row HK.out.1.below (by omega) _⟩
    exact (HK.out.2.2.keep (by simp [World.setRow]) (fun b _ hb => setRow_other _ (w.heap.size + 1 + 1) b _ (by omega))).weak (fun _ _ _ => trivial)
  rw [Dr.P.chk_ok hok]
  have HOK := Lib.hid hok
  obtain ⟨nd, hnd⟩ : ∃ nd, p.nodes = nd := ⟨_, rfl⟩
  have HND := Lib.hid hnd
  have c0 := HK.out.1.pl.cells.1
  rw [hnd] at c0
  have s0 : w4.cell? ⟨w.heap.size + 1, 0, none⟩ = some (.int .i64 l.slot) := HK.out.1.lb.1.cell 0
  have s1 : w4.cell? ⟨w.heap.size + 1, 1, none⟩ = some (.int .i64 l.nonce) := HK.out.1.lb.1.cell 1
  have s3 : w4.cell? ⟨w.heap.size + 1, 3, none⟩ = some (.slice ad n c) := HK.out.1.lb.1.cell 3
  clear hok hnd
  by_cases z1 : slot = l.slot
  case neg =>
    have HE : Hid (t = l) := Lib.hid (HNO.out fun h => z1 h.2.1)
    have q1 : (slot != l.slot) = true := by simp [z1]
    clear z1
    go_wp2_with (first | ((with_reducible show wpList _ _ _ ((⟨some 44, Op.load 26 (.tmp 6), _, _, _, _⟩ : Oper) :: _) _ _); refine wpList_load_rowG (by rfl) _ (.tmp 6) rfl (w.heap.size + 1) rfl 26 (lcs l.slot l.nonce l.asked ad n c) (0, 0) _ HK.out.1.lb.1 Try.underlying26 rfl info_ls ?_) | ((with_reducible show wpList _ _ _ ((⟨_, Op.store 26 (.tmp 10) _, _, _, _, _⟩ : Oper) :: _) _ _); refine wpList_store_row rfl 26 (.tmp 10) (.tmp 44) rfl (w.heap.size + 1 + 1) (lcs l.slot l.nonce l.asked ad n c) rfl rfl 26 _ HK.out.2.1 info_ls rfl (by simp [lcs, Value.oneCell']) ?_) | fail)
    refine bodyPost_ret (results_one_cell rfl _ _ _ _ rfl (run_loadVar_row _ _ _ _ _ (0, 0) _ (HK.out.2.1.row (lcs l.slot l.nonce l.asked ad n c)) Try.underlying26 rfl info_ls)) rfl ?_
    rw [HE.out]
    refine ⟨_, rfl, ⟨ad, n, c, rfl, ?_, HQ.out⟩, below_row HK.out.1.below (by omega) _⟩
    exact (HK.out.2.2.keep (by simp [World.setRow]) (fun b _ hb => setRow_other _ (w.heap.size + 1 + 1) b _ (by omega))).weak (fun _ _ _ => trivial)
  have q1 : (slot != l.slot) = false := by simp [z1]
  have Z1 := Lib.hid z1
  clear z1
  by_cases z2 : nonce = l.nonce
  case neg =>
    have HE : Hid (t = l) := Lib.hid (HNO.out fun h => z2 h.2.2.1)
    have q2 : (nonce != l.nonce) = true := by simp [z2]
    clear z2
    go_wp2_with (first | ((with_reducible show wpList _ _ _ ((⟨some 44, Op.load 26 (.tmp 6), _, _, _, _⟩ : Oper) :: _) _ _); refine wpList_load_rowG (by rfl) _ (.tmp 6) rfl (w.heap.size + 1) rfl 26 (lcs l.slot l.nonce l.asked ad n c) (0, 0) _ HK.out.1.lb.1 Try.underlying26 rfl info_ls ?_) | ((with_reducible show wpList _ _ _ ((⟨_, Op.store 26 (.tmp 10) _, _, _, _, _⟩ : Oper) :: _) _ _); refine wpList_store_row rfl 26 (.tmp 10) (.tmp 44) rfl (w.heap.size + 1 + 1) (lcs l.slot l.nonce l.asked ad n c) rfl rfl 26 _ HK.out.2.1 info_ls rfl (by simp [lcs, Value.oneCell']) ?_) | fail)
    refine bodyPost_ret (results_one_cell rfl _ _ _ _ rfl (run_loadVar_row _ _ _ _ _ (0, 0) _ (HK.out.2.1.row (lcs l.slot l.nonce l.asked ad n c)) Try.underlying26 rfl info_ls)) rfl ?_
    rw [HE.out]
    refine ⟨_, rfl, ⟨ad, n, c, rfl, ?_, HQ.out⟩, below_row HK.out.1.below (by omega) _⟩
    exact (HK.out.2.2.keep (by simp [World.setRow]) (fun b _ hb => setRow_other _ (w.heap.size + 1 + 1) b _ (by omega))).weak (fun _ _ _ => trivial)
  have q2 : (nonce != l.nonce) = false := by simp [z2]
  have Z2 := Lib.hid z2
  clear z2
  by_cases z3 : node < 0
  · have HE : Hid (t = l) := Lib.hid (HNO.out fun h => by have := h.2.2.2.1; omega)
    go_wp2_with (first | ((with_reducible show wpList _ _ _ ((⟨some 44, Op.load 26 (.tmp 6), _, _, _, _⟩ : Oper) :: _) _ _); refine wpList_load_rowG (by rfl) _ (.tmp 6) rfl (w.heap.size + 1) rfl 26 (lcs l.slot l.nonce l.asked ad n c) (0, 0) _ HK.out.1.lb.1 Try.underlying26 rfl info_ls ?_) | ((with_reducible show wpList _ _ _ ((⟨_, Op.store 26 (.tmp 10) _, _, _, _, _⟩ : Oper) :: _) _ _); refine wpList_store_row rfl 26 (.tmp 10) (.tmp 44) rfl (w.heap.size + 1 + 1) (lcs l.slot l.nonce l.asked ad n c) rfl rfl 26 _ HK.out.2.1 info_ls rfl (by simp [lcs, Value.oneCell']) ?_) | fail)
    refine bodyPost_ret (results_one_cell rfl _ _ _ _ rfl (run_loadVar_row _ _ _ _ _ (0, 0) _ (HK.out.2.1.row (lcs l.slot l.nonce l.asked ad n c)) Try.underlying26 rfl info_ls)) rfl ?_
    rw [HE.out]
    refine ⟨_, rfl, ⟨ad, n, c, rfl, ?_, HQ.out⟩, below_row HK.out.1.below (by omega) _⟩
    exact (HK.out.2.2.keep (by simp [World.setRow]) (fun b _ hb => setRow_other _ (w.heap.size + 1 + 1) b _ (by omega))).weak (fun _ _ _ => trivial)
  by_cases z4 : node ≥ nd
  · have HE : Hid (t = l) := Lib.hid (HNO.out fun h => by have := h.2.2.2.2.1; rw [HND.out] at this; omega)
    go_wp2_with (first | ((with_reducible show wpList _ _ _ ((⟨some 44, Op.load 26 (.tmp 6), _, _, _, _⟩ : Oper) :: _) _ _); refine wpList_load_rowG (by rfl) _ (.tmp 6) rfl (w.heap.size + 1) rfl 26 (lcs l.slot l.nonce l.asked ad n c) (0, 0) _ HK.out.1.lb.1 Try.underlying26 rfl info_ls ?_) | ((with_reducible show wpList _ _ _ ((⟨_, Op.store 26 (.tmp 10) _, _, _, _, _⟩ : Oper) :: _) _ _); refine wpList_store_row rfl 26 (.tmp 10) (.tmp 44) rfl (w.heap.size + 1 + 1) (lcs l.slot l.nonce l.asked ad n c) rfl rfl 26 _ HK.out.2.1 info_ls rfl (by simp [lcs, Value.oneCell']) ?_) | fail)
    refine bodyPost_ret (results_one_cell rfl _ _ _ _ rfl (run_loadVar_row _ _ _ _ _ (0, 0) _ (HK.out.2.1.row (lcs l.slot l.nonce l.asked ad n c)) Try.underlying26 rfl info_ls)) rfl ?_
    rw [HE.out]
    refine ⟨_, rfl, ⟨ad, n, c, rfl, ?_, HQ.out⟩, below_row HK.out.1.below (by omega) _⟩
    exact (HK.out.2.2.keep (by simp [World.setRow]) (fun b _ hb => setRow_other _ (w.heap.size + 1 + 1) b _ (by omega))).weak (fun _ _ _ => trivial)
  cases b0
  case true =>
    have HE : Hid (t = l) := Lib.hid (HNO.out fun h => h.2.2.2.2.2 (of_decide_eq_true HB.out))
    go_wp2_with (first | ((with_reducible show wpList _ _ _ ((⟨some 44, Op.load 26 (.tmp 6), _, _, _, _⟩ : Oper) :: _) _ _); refine wpList_load_rowG (by rfl) _ (.tmp 6) rfl (w.heap.size + 1) rfl 26 (lcs l.slot l.nonce l.asked ad n c) (0, 0) _ HK.out.1.lb.1 Try.underlying26 rfl info_ls ?_) | ((with_reducible show wpList _ _ _ ((⟨_, Op.store 26 (.tmp 10) _, _, _, _, _⟩ : Oper) :: _) _ _); refine wpList_store_row rfl 26 (.tmp 10) (.tmp 44) rfl (w.heap.size + 1 + 1) (lcs l.slot l.nonce l.asked ad n c) rfl rfl 26 _ HK.out.2.1 info_ls rfl (by simp [lcs, Value.oneCell']) ?_) | fail)
    refine bodyPost_ret (results_one_cell rfl _ _ _ _ rfl (run_loadVar_row _ _ _ _ _ (0, 0) _ (HK.out.2.1.row (lcs l.slot l.nonce l.asked ad n c)) Try.underlying26 rfl info_ls)) rfl ?_
    rw [HE.out]
    refine ⟨_, rfl, ⟨ad, n, c, rfl, ?_, HQ.out⟩, below_row HK.out.1.below (by omega) _⟩
    exact (HK.out.2.2.keep (by simp [World.setRow]) (fun b _ hb => setRow_other _ (w.heap.size + 1 + 1) b _ (by omega))).weak (fun _ _ _ => trivial)
  have HE : Hid (t = { l with fr := l.fr ++ [node] }) := Lib.hid (HYES.out ⟨HOK.out, Z1.out, Z2.out, by omega, by rw [HND.out]; omega, of_decide_eq_false HB.out⟩)
  have hn := HN.out
  have hl1 := HK.out.1.lb.1.lt
  go_wp2_with (first | ((with_reducible show wpList _ _ _ ((⟨_, Op.buildSlice _ 0 _, _, _, _, _⟩ : Oper) :: _) _ _); refine IE.wpList_build0 (by rfl) rfl ?_) | ((with_reducible show wpList _ _ _ ((⟨some 48, _, _, _, _, _⟩ : Oper) :: _) _ _); refine IE.wpList_append _ (by rfl) (.tmp 45) (.tmp 47) rfl w4.heap.size (.slice (some ⟨w4.heap.size, 0, none⟩) 0 0) 0 [] rfl (IE.empty_own w4) Any ad n c l.fr rfl (ns_row ((HK.out.2.2.weak (fun _ _ _ => trivial)).below (below_alloc w4 _) (fun _ h _ => h))) (by omega) (by omega) (by simp) ?_) | fail)
  intro v5 w5 hown hg _
  obtain ⟨a5, c5, rfl, hO, hb5⟩ := IE.copied HL.out.1 HL.out.2 hown hg
  have HK5 : Hid (Cls w w5 C (lcs l.slot l.nonce l.asked ad n c) p l ∧ Whole w5 (w.heap.size + 1 + 1) 26 lz) := Lib.hid ⟨HK.out.1.on hb5, HK.out.2.1.below hb5 HK.out.2.1.lt⟩
  have hO1 := hO.below (below_alloc w5 (.cells #[.int .i64 node] 3))
  have HO := Lib.hid (And.intro hO hO1)
  have hs4 : w.heap.size + 1 + 1 < w4.heap.size := HK.out.2.1.lt
  have hs5 : w4.heap.size ≤ w5.heap.size := hb5.size
  have H1 : Hid (IE.Row (w5.alloc (.cells #[.int .i64 node] 3)) Any (some ⟨w5.heap.size, 0, none⟩) 1 [node]) := Lib.hid (IE.row_one (x := node) (Whole.new w5 _ _) trivial HI.out)
  clear hown hg hO hO1 hb5 c0 s0 s1 s3 hl1
  go_wp2_with (first | ((with_reducible show wpList _ _ _ ((⟨some 51, _, _, _, _, _⟩ : Oper) :: _) _ _); refine IE.wpList_append _ (by rfl) (.tmp 48) (.tmp 50) rfl w4.heap.size (.slice a5 n c5) n (IE.flat l.fr) rfl HO.out.2.own Any (some ⟨w5.heap.size, 0, none⟩) 1 1 [node] rfl H1.out (by omega) (by omega) (by simp; omega) ?_) | fail)
  intro v6 w6 hown6 hg6 _
  obtain ⟨a6, c6, rfl, hO6⟩ := IE.own_add HO.out.2 HI.out hown6
  have hne : ∀ b, (Value.slice a5 n c5).ownBlock = some b → w4.heap.size ≤ b := fun b hb => Elem.own_ge HO.out.2.own b hb
  have hV6 : Whole w6 (w.heap.size + 1) 26 (lcs l.slot l.nonce l.asked ad n c) := (HK5.out.1.lb.1.alloc _).grown hg6 (fun e => by have := hne _ e.symm; omega)
  have hZ6 : Whole w6 (w.heap.size + 1 + 1) 26 lz := (HK5.out.2.alloc _).grown hg6 (fun e => by have := hne _ e.symm; omega)
  have hB6 : Below w.heap.size w w6 := (HK5.out.1.below.alloc HK5.out.1.below.size _).grown hg6 (by simp; omega) (fun k hk => by have := hne k hk; omega)
  have s3 : w6.cell? ⟨w.heap.size + 1, 3, none⟩ = some (.slice ad n c) := hV6.cell 3
  have f3 : w6.frozen? ⟨w.heap.size + 1, 3, none⟩ = false := hV6.frozen 3
  have H7 : Hid (Whole (w6.setCell ⟨w.heap.size + 1, 3, none⟩ (.slice a6 (n + 1) c6)) (w.heap.size + 1) 26 (lcs l.slot l.nonce l.asked a6 (n + 1) c6) ∧ Whole (w6.setCell ⟨w.heap.size + 1, 3, none⟩ (.slice a6 (n + 1) c6)) (w.heap.size + 1 + 1) 26 lz ∧ IE.Own (w6.setCell ⟨w.heap.size + 1, 3, none⟩ (.slice a6 (n + 1) c6)) w4.heap.size a6 (n + 1) c6 (l.fr ++ [node]) ∧ Below w.heap.size w (w6.setCell ⟨w.heap.size + 1, 3, none⟩ (.slice a6 (n + 1) c6))) := Lib.hid ⟨hV6.set 3 _, hZ6.far (p := ⟨w.heap.size + 1, 3, none⟩) (by show w.heap.size + 1 + 1 ≠ w.heap.size + 1; omega) _, ⟨Elem.own_keep hO6.own (fun b hq => heap_setCell_other _ _ _ _ (by have := Elem.own_ge hO6.own b hq; show b ≠ w.heap.size + 1; omega)), hO6.mem, hO6.len⟩, hB6.setCell (p := ⟨w.heap.size + 1, 3, none⟩) (by show w.heap.size ≤ w.heap.size + 1; omega) _⟩
  clear hown6 hg6 hO6 hne hV6 hZ6 hB6 HO H1 HK5
  go_upto_region 5 with fail
  generalize w6.setCell ⟨w.heap.size + 1, 3, none⟩ (.slice a6 (n + 1) c6) = w7 at *
  clear s3 f3
  go_wp2_with (first | ((with_reducible show wpList _ _ _ ((⟨some 53, Op.load 26 (.tmp 6), _, _, _, _⟩ : Oper) :: _) _ _); refine wpList_load_rowG (by rfl) _ (.tmp 6) rfl (w.heap.size + 1) rfl 26 (lcs l.slot l.nonce l.asked a6 (n + 1) c6) (0, 0) _ H7.out.1 Try.underlying26 rfl info_ls ?_) | ((with_reducible show wpList _ _ _ ((⟨_, Op.store 26 (.tmp 10) _, _, _, _, _⟩ : Oper) :: _) _ _); refine wpList_store_row rfl 26 (.tmp 10) (.tmp 53) rfl (w.heap.size + 1 + 1) (lcs l.slot l.nonce l.asked a6 (n + 1) c6) rfl rfl 26 _ H7.out.2.1 info_ls rfl (by simp [lcs, Value.oneCell']) ?_) | fail)
  refine bodyPost_ret (results_one_cell rfl _ _ _ _ rfl (run_loadVar_row _ _ _ _ _ (0, 0) _ (H7.out.2.1.row (lcs l.slot l.nonce l.asked a6 (n + 1) c6)) Try.underlying26 rfl info_ls)) rfl ?_
  rw [HE.out]
  refine ⟨_, rfl, ⟨a6, n + 1, c6, rfl, ?_, H7.out.2.2.1.cap, HQ.out.2⟩, below_row H7.out.2.2.2 (by omega) _⟩
  exact (row_ns ((H7.out.2.2.1.row.keep (by simp [World.setRow]) (fun b _ hb => setRow_other _ (w.heap.size + 1 + 1) b _ (by omega))).any))
set_option maxHeartbeats 4000000 in
theorem rlsame_any {w : World} {V V' : Array Value} {l : Ln.L} (ha : Lse w V l) (ha' : Lse w V' l) (hn : l.fr.length ≤ 1000000) : Calls Try.prog 10 #[.agg V, .agg V'] w fun e w' => e = .returned (.bool true) ∧ Below w.heap.size w w' := by
  obtain ⟨w1, hw1, hA, hB, hb1⟩ : ∃ w1, (w.alloc (.cells V 26)).alloc (.cells V' 26) = w1 ∧ Lb w1 w.heap.size V l ∧ Lb w1 (w.heap.size + 1) V' l ∧ Below w.heap.size w w1 := by
    refine ⟨_, rfl, (Lb.new ha).on (below_alloc _ _), ?_, (below_alloc w _).alloc (by simp) _⟩
    have := Lb.new (ha'.on (below_alloc w (.cells V 26)))
    rw [size_alloc] at this
    exact this
  have HW := Lib.hid hw1
  have H1 := Lib.hid (And.intro hA (And.intro hB hb1))
  obtain ⟨ad, n, c, rfl, hrow, hnc, _⟩ := ha
  obtain ⟨ad', n', c', rfl, hrow', hnc', _⟩ := ha'
  have hnn : n' = n := by rw [← hrow'.1, hrow.1]
  subst hnn
  have HN : Hid (n' ≤ 1000000) := Lib.hid (by rw [← hrow.1]; exact hn)
  clear hw1 hA hB hb1 hrow hrow' hn
  have q0 : (l.slot == l.slot) = true := by simp
  have q1 : (l.nonce == l.nonce) = true := by simp
  have q2 : (l.asked == l.asked) = true := by simp
  go_enter Try.func10, Try.ntmps10
  go_upto_region 1 with fail
  rw [HW.out]
  have s3 : w1.cell? ⟨w.heap.size, 3, none⟩ = some (.slice ad n' c) := H1.out.1.1.cell 3
  have t3 : w1.cell? ⟨w.heap.size + 1, 3, none⟩ = some (.slice ad' n' c') := H1.out.2.1.1.cell 3
  go_wp2_with fail
  refine (rnsame_any (w := w1) H1.out.1.2.row H1.out.2.1.2.row HN.out).mono ?_
  rintro e w2 ⟨rfl, hb⟩
  have H2 := Lib.hid (And.intro (H1.out.1.on hb) (And.intro (H1.out.2.1.on hb) (H1.out.2.2.trans (hb.mono H1.out.2.2.size))))
  clear hb s3 t3 H1
  have s0 : w2.cell? ⟨w.heap.size, 0, none⟩ = some (.int .i64 l.slot) := H2.out.1.1.cell 0
  have t0 : w2.cell? ⟨w.heap.size + 1, 0, none⟩ = some (.int .i64 l.slot) := H2.out.2.1.1.cell 0
  have s1 : w2.cell? ⟨w.heap.size, 1, none⟩ = some (.int .i64 l.nonce) := H2.out.1.1.cell 1
  have t1 : w2.cell? ⟨w.heap.size + 1, 1, none⟩ = some (.int .i64 l.nonce) := H2.out.2.1.1.cell 1
  have s2 : w2.cell? ⟨w.heap.size, 2, none⟩ = some (.int .i64 l.asked) := H2.out.1.1.cell 2
  have t2 : w2.cell? ⟨w.heap.size + 1, 2, none⟩ = some (.int .i64 l.asked) := H2.out.2.1.1.cell 2
  go_wp2
  go_ret
  exact ⟨rfl, H2.out.2.2⟩
end Go.Proofs.Ytegdopbiiddamaa
