/-
  The package's granted, Ask and Grant of leases.
-/
import Derived.Test.YtegdopbiiddamaaSm
import Derived.Test.YtegdopbiiddamaaSn
namespace Go.Proofs.Ytegdopbiiddamaa
open Go.RowKit Go.Great
set_option linter.unusedVariables false
set_option linter.unusedSimpArgs false
set_option maxRecDepth 20000
theorem own_ns {w : World} {B : Nat} {a : Option Addr} {n c : Nat} {l : List Int} (h : IE.Own w B a n c l) : Ns w (B ≤ ·) a n l := row_ns h.row
set_option maxHeartbeats 4000000 in
theorem granted_any {w : World} {T S' : Nat → Prop} {V : Array Value} {l : Ln.L} {a' : Option Addr} {n' c' : Nat} {k : List Int} (ha : LseS w T V l) (hk : Ns w S' a' n' k) (hn : l.fr.length ≤ 1000) (hn' : n' ≤ 1000) :
    Calls Try.prog 31 #[.agg V, .slice a' n' c'] w (LseSQ w (fun b => w.heap.size ≤ b) { l with fr := l.fr ++ k }) := by
  obtain ⟨ad, n, c, rfl, hrow, hnc, hin⟩ := ha
  obtain ⟨w1, hw1, hL, hZ, hb1, hs1⟩ : ∃ w1, (w.alloc (.cells (lcs l.slot l.nonce l.asked ad n c) 26)).alloc (.cells lz 26) = w1 ∧ Whole w1 w.heap.size 26 (lcs l.slot l.nonce l.asked ad n c) ∧ Whole w1 (w.heap.size + 1) 26 lz ∧ Below w.heap.size w w1 ∧ w1.heap.size = w.heap.size + 1 + 1 := by
    refine ⟨_, rfl, (Whole.new w _ _).alloc _, ?_, (below_alloc w _).alloc (by simp) _, by simp⟩
    have := Whole.new (w.alloc (.cells (lcs l.slot l.nonce l.asked ad n c) 26)) 26 lz
    rw [size_alloc] at this
    exact this
  have c3 : w1.cell? ⟨w.heap.size, 3, none⟩ = some (.slice ad n c) := hL.cell 3
  have HW := Lib.hid hw1
  have H1 := Lib.hid (And.intro hL (And.intro hZ (And.intro hb1 hs1)))
  have HR := Lib.hid (And.intro (hrow.old.below hb1 (fun _ _ h => h)) (hk.old.below hb1 (fun _ _ h => h)))
  have HN : Hid (n ≤ 1000 ∧ n' ≤ 1000 ∧ In64 l.slot ∧ In64 l.nonce ∧ In64 l.asked) := Lib.hid ⟨by rw [← hrow.1]; exact hn, hn', hin⟩
  clear hrow hk hn hn' hw1 hL hZ hb1 hs1 hin
  go_enter Try.func31, Try.ntmps31
  go_upto_region 1 with fail
  rw [← lz_is, HW.out]
  go_wp2_with fail
  have hb2 := below_alloc w1 (.cells #[.slice ad n c, .slice a' n' c'] 22)
  have hw2 := Whole.new w1 22 #[.slice ad n c, .slice a' n' c']
  have hs2 := size_alloc w1 (.cells #[.slice ad n c, .slice a' n' c'] 22)
  generalize w1.alloc (.cells #[.slice ad n c, .slice a' n' c'] 22) = w2 at *
  have hT : Two w2 w1.heap.size (.slice ad n c) (.slice a' n' c') := ⟨by omega, hw2.cell 0, hw2.cell 1⟩
  have hge := H1.out.2.2.2
  refine (concat_any (HR.out.1.below hb2 (fun b _ h => by omega)) (HR.out.2.below hb2 (fun b _ h => by omega)) hT (by have := HN.out.1; omega) (by have := HN.out.2.1; omega)).mono ?_
  rintro e w3 ⟨a3, n3, c3, rfl, hm3, hb3⟩
  have hb13 : Below w1.heap.size w1 w3 := hb2.trans (hb3.mono (by omega))
  have HO := Lib.hid hm3
  have HB := Lib.hid (And.intro (H1.out.1.below hb13 H1.out.1.lt) (And.intro (H1.out.2.1.below hb13 H1.out.2.1.lt) (H1.out.2.2.1.trans (hb13.mono (by omega)))))
  have hsz : w.heap.size + 1 + 1 < w2.heap.size := by omega
  clear hb2 hw2 hs2 hT hb3 hm3 hb13 hge
  have k3 : w3.cell? ⟨w.heap.size, 3, none⟩ = some (.slice ad n c) := HB.out.1.cell 3
  have f3 : w3.frozen? ⟨w.heap.size, 3, none⟩ = false := HB.out.1.frozen 3
  have hW4 : Whole (w3.setCell ⟨w.heap.size, 3, none⟩ (.slice a3 n3 c3)) w.heap.size 26 (lcs l.slot l.nonce l.asked a3 n3 c3) := HB.out.1.set 3 (.slice a3 n3 c3)
  have hZ4 : Whole (w3.setCell ⟨w.heap.size, 3, none⟩ (.slice a3 n3 c3)) (w.heap.size + 1) 26 lz := HB.out.2.1.keep (Below.heap_setCell w3 ⟨w.heap.size, 3, none⟩ _ (w.heap.size + 1) (by show w.heap.size + 1 ≠ w.heap.size; omega))
  have hb4 : Below w.heap.size w (w3.setCell ⟨w.heap.size, 3, none⟩ (.slice a3 n3 c3)) := HB.out.2.2.setCell (Nat.le_refl _) _
  have hO4 : Ns (w3.setCell ⟨w.heap.size, 3, none⟩ (.slice a3 n3 c3)) (w2.heap.size ≤ ·) a3 n3 (l.fr ++ k) := (own_ns HO.out).keep (by simp [World.setCell]) (fun b _ hb => Below.heap_setCell w3 ⟨w.heap.size, 3, none⟩ _ b (by show b ≠ w.heap.size; omega))
  go_upto_region 2 with fail
  generalize w3.setCell ⟨w.heap.size, 3, none⟩ (.slice a3 n3 c3) = w4 at *
  have H4 := Lib.hid (And.intro hW4 (And.intro hZ4 (And.intro hb4 hO4)))
  have HSZ := Lib.hid hsz
  have HC3 := Lib.hid HO.out.cap
  clear hW4 hZ4 hb4 hO4 k3 f3 hsz HB HO
  go_wp2_with (first | ((with_reducible show wpList _ _ _ ((⟨some 11, Op.load 26 (.tmp 2), _, _, _, _⟩ : Oper) :: _) _ _); refine wpList_load_rowG (by rfl) _ (.tmp 2) rfl w.heap.size rfl 26 (lcs l.slot l.nonce l.asked a3 n3 c3) (0, 0) _ H4.out.1 Try.underlying26 rfl info_ls ?_) | ((with_reducible show wpList _ _ _ ((⟨_, Op.store 26 (.tmp 4) _, _, _, _, _⟩ : Oper) :: _) _ _); refine wpList_store_row rfl 26 (.tmp 4) (.tmp 11) rfl (w.heap.size + 1) (lcs l.slot l.nonce l.asked a3 n3 c3) rfl rfl 26 _ H4.out.2.1 info_ls rfl (by simp [lcs, Value.oneCell']) ?_) | fail)
  refine bodyPost_ret (results_one_cell rfl _ _ _ _ rfl (run_loadVar_row _ _ _ _ _ (0, 0) _ (H4.out.2.1.row (lcs l.slot l.nonce l.asked a3 n3 c3)) Try.underlying26 rfl info_ls)) rfl ?_
  refine ⟨_, rfl, ⟨a3, n3, c3, rfl, ?_, HC3.out, HN.out.2.2⟩, below_row H4.out.2.2.1 (by omega) _⟩
  exact (H4.out.2.2.2.keep (by simp [World.setRow]) (fun b _ hb => setRow_other _ _ b _ (by have := HSZ.out; omega))).weak (fun b _ hb => by have := HSZ.out; omega)
set_option maxHeartbeats 4000000 in
theorem ask_l_any (w : World) (s no now : Int) (h1 : In64 s) (h2 : In64 no) (h3 : In64 now) : Calls Try.prog 13 #[.int .i64 s, .int .i64 no, .int .i64 now] w (LseSQ w (fun b => w.heap.size ≤ b) ⟨s, no, now, []⟩) := by
  have hZ := Whole.new w 26 lz
  have hb1 := below_alloc w (.cells lz 26)
  obtain ⟨w1, hw1⟩ : ∃ w1, w.alloc (.cells lz 26) = w1 := ⟨_, rfl⟩
  rw [hw1] at hZ hb1
  have HW := Lib.hid hw1
  have H1 := Lib.hid (And.intro hZ hb1)
  have HI := Lib.hid (And.intro h1 (And.intro h2 h3))
  clear hZ hb1 hw1 h1 h2 h3
  go_enter Try.func13, Try.ntmps13
  go_upto_region 1 with fail
  rw [← lz_is, HW.out]
  go_wp2_with (first | ((with_reducible show wpList _ _ _ ((⟨_, Op.build 26 _, _, _, _, _⟩ : Oper) :: _) _ _); refine wpList_built rfl _ rfl [(0, .int .i64 s), (1, .int .i64 no), (2, .int .i64 now)] rfl (lcs s no now none 0 0).toList (by kernel_rfl) ?_) | ((with_reducible show wpList _ _ _ ((⟨_, Op.store 26 (.tmp 6) _, _, _, _, _⟩ : Oper) :: _) _ _); refine wpList_store_row rfl 26 (.tmp 6) (.tmp 10) rfl w.heap.size (lcs s no now none 0 0) rfl rfl 26 _ H1.out.1 info_ls rfl (by simp [lcs, Value.oneCell']) ?_) | fail)
  refine bodyPost_ret (results_one_cell rfl _ _ _ _ rfl (run_loadVar_row _ _ _ _ _ (0, 0) _ (H1.out.1.row (lcs s no now none 0 0)) Try.underlying26 rfl info_ls)) rfl ?_
  exact ⟨_, rfl, ⟨none, 0, 0, rfl, Ns.nil _ _ _, Nat.le_refl _, HI.out⟩, below_row H1.out.2 (Nat.le_refl _) _⟩
theorem Ln.takes_iff {p : Dr.P} {l : Ln.L} {node s no : Int} : Ln.takes p l node s no ↔ (s = l.slot ∧ no = l.nonce ∧ Ln.oneMore p l node) := by
  unfold Ln.takes Ln.oneMore
  constructor
  · rintro ⟨a, b, c, d⟩; exact ⟨b, c, a, d⟩
  · rintro ⟨b, c, a, d⟩; exact ⟨a, b, c, d⟩
theorem Lse.s {w : World} {V : Array Value} {l : Ln.L} (h : Lse w V l) : LseS w Any V l := h
set_option maxHeartbeats 8000000 in
theorem grant_l_any {w : World} {S : Nat → Prop} {C V : Array Value} {p : Dr.P} {l : Ln.L} (h : Cc w S C p) (ha : Lse w V l) (hn : l.fr.length ≤ 1000) (node s no : Int) (h2 : In64 node) :
    Calls Try.prog 11 #[.agg C, .agg V, .int .i64 node, .int .i64 s, .int .i64 no] w (LseSQ w (fun b => w.heap.size ≤ b) (Ln.grant p l node s no)) := by
  have h11 := h.size
  obtain ⟨w1, hw1, hk⟩ := boxes_pl h ha
  have hZ := Whole.new w1 26 lz
  have hsz : w1.heap.size = w.heap.size + 1 + 1 := by rw [← hw1, size_alloc, size_alloc]
  have hk2 := hk.on (below_alloc w1 (.cells lz 26))
  rw [hsz] at hZ
  obtain ⟨w2, hw2⟩ : ∃ w2, w1.alloc (.cells lz 26) = w2 := ⟨_, rfl⟩
  rw [hw2] at hk2 hZ
  have HW := Lib.hid (And.intro hw1 hw2)
  have HK := Lib.hid hk2
  have HZ := Lib.hid hZ
  obtain ⟨ad, n, c, rfl, hrow, hnc, _⟩ := ha
  have HN := Lib.hid hn
  have H2 := Lib.hid h2
  have HSZ := Lib.hid hsz
  obtain ⟨r, hr⟩ : ∃ r, Ln.grant p l node s no = r := ⟨_, rfl⟩
  rw [hr]
  have HR := Lib.hid hr
  have d0 : w2.cell? ⟨w.heap.size + 1, 0, none⟩ = some (.int .i64 l.slot) := HK.out.lb.1.cell 0
  have d1 : w2.cell? ⟨w.heap.size + 1, 1, none⟩ = some (.int .i64 l.nonce) := HK.out.lb.1.cell 1
  clear h hw1 hw2 hk hk2 hZ hrow hn h2 hr
  have HNO : ¬ Ln.takes p l node s no → Hid (({ l with fr := l.fr ++ [] } : Ln.L) = r) := fun h => Lib.hid (by rw [← HR.out]; unfold Ln.grant; rw [if_neg h]; simp)
  have HNO := Lib.hid HNO
  go_enter Try.func11, Try.ntmps11
  go_upto_region 1 with fail
  rw [← lz_is, HW.out.1, HW.out.2]
  clear hsz
  by_cases hs : s = l.slot
  case neg =>
    have q1 : (s != l.slot) = true := by simp [hs]
    have HE := HNO.out (fun h => hs (Ln.takes_iff.1 h).1)
    clear hs
    go_upto_region 2 with fail
    go_wp2_with (first | ((with_reducible show wpList _ _ _ ((⟨some 28, Op.load 26 (.tmp 6), _, _, _, _⟩ : Oper) :: _) _ _); refine wpList_load_rowG (by rfl) _ (.tmp 6) rfl (w.heap.size + 1) rfl 26 (lcs l.slot l.nonce l.asked ad n c) (0, 0) _ HK.out.lb.1 Try.underlying26 rfl info_ls ?_) | fail)
    refine (granted_any (HK.out.lb.2.s) (Ns.nil _ Any none) HN.out (Nat.zero_le _)).mono ?_
    rintro e w3 ⟨V3, rfl, ha3, hb3⟩
    obtain ⟨a3, n3, c3, rfl, hr3, hnc3, hin3⟩ := ha3
    have HA : Hid (LseS w3 (fun b => w.heap.size ≤ b ∧ b ≠ w.heap.size + 1 + 1) (lcs l.slot l.nonce l.asked a3 n3 c3) { l with fr := l.fr ++ [] } ∧ Below w.heap.size w w3 ∧ Whole w3 (w.heap.size + 1 + 1) 26 lz) := Lib.hid ⟨⟨a3, n3, c3, rfl, hr3.weak (fun b _ hb => by have := HZ.out.lt; omega), hnc3, hin3⟩, HK.out.below.trans (hb3.mono HK.out.below.size), HZ.out.below hb3 HZ.out.lt⟩
    clear hr3 hnc3 hin3 hb3
    go_wp2_with (first | ((with_reducible show wpList _ _ _ ((⟨_, Op.store 26 (.tmp 10) _, _, _, _, _⟩ : Oper) :: _) _ _); refine wpList_store_row rfl 26 (.tmp 10) (.tmp 29) rfl (w.heap.size + 1 + 1) (lcs l.slot l.nonce l.asked a3 n3 c3) rfl rfl 26 _ HA.out.2.2 info_ls rfl (by simp [lcs, Value.oneCell']) ?_) | fail)
    refine bodyPost_ret (results_one_cell rfl _ _ _ _ rfl (run_loadVar_row _ _ _ _ _ (0, 0) _ (HA.out.2.2.row (lcs l.slot l.nonce l.asked a3 n3 c3)) Try.underlying26 rfl info_ls)) rfl ?_
    rw [← HE.out]
    exact ⟨_, rfl, (HA.out.1.keep (by simp [World.setRow]) (fun b _ hb => setRow_other _ _ b _ hb.2)).weak (fun b _ hb => hb.1), below_row HA.out.2.1 (by omega) _⟩
  have HSS := Lib.hid hs
  have q1 : (s != l.slot) = false := by simp [hs]
  by_cases ho : no = l.nonce
  case neg =>
    have q2 : (no != l.nonce) = true := by simp [ho]
    have HE := HNO.out (fun h => ho (Ln.takes_iff.1 h).2.1)
    clear hs ho
    go_upto_region 2 with fail
    go_wp2_with (first | ((with_reducible show wpList _ _ _ ((⟨some 28, Op.load 26 (.tmp 6), _, _, _, _⟩ : Oper) :: _) _ _); refine wpList_load_rowG (by rfl) _ (.tmp 6) rfl (w.heap.size + 1) rfl 26 (lcs l.slot l.nonce l.asked ad n c) (0, 0) _ HK.out.lb.1 Try.underlying26 rfl info_ls ?_) | fail)
    refine (granted_any (HK.out.lb.2.s) (Ns.nil _ Any none) HN.out (Nat.zero_le _)).mono ?_
    rintro e w3 ⟨V3, rfl, ha3, hb3⟩
    obtain ⟨a3, n3, c3, rfl, hr3, hnc3, hin3⟩ := ha3
    have HA : Hid (LseS w3 (fun b => w.heap.size ≤ b ∧ b ≠ w.heap.size + 1 + 1) (lcs l.slot l.nonce l.asked a3 n3 c3) { l with fr := l.fr ++ [] } ∧ Below w.heap.size w w3 ∧ Whole w3 (w.heap.size + 1 + 1) 26 lz) := Lib.hid ⟨⟨a3, n3, c3, rfl, hr3.weak (fun b _ hb => by have := HZ.out.lt; omega), hnc3, hin3⟩, HK.out.below.trans (hb3.mono HK.out.below.size), HZ.out.below hb3 HZ.out.lt⟩
    clear hr3 hnc3 hin3 hb3
    go_wp2_with (first | ((with_reducible show wpList _ _ _ ((⟨_, Op.store 26 (.tmp 10) _, _, _, _, _⟩ : Oper) :: _) _ _); refine wpList_store_row rfl 26 (.tmp 10) (.tmp 29) rfl (w.heap.size + 1 + 1) (lcs l.slot l.nonce l.asked a3 n3 c3) rfl rfl 26 _ HA.out.2.2 info_ls rfl (by simp [lcs, Value.oneCell']) ?_) | fail)
    refine bodyPost_ret (results_one_cell rfl _ _ _ _ rfl (run_loadVar_row _ _ _ _ _ (0, 0) _ (HA.out.2.2.row (lcs l.slot l.nonce l.asked a3 n3 c3)) Try.underlying26 rfl info_ls)) rfl ?_
    rw [← HE.out]
    exact ⟨_, rfl, (HA.out.1.keep (by simp [World.setRow]) (fun b _ hb => setRow_other _ _ b _ hb.2)).weak (fun b _ hb => hb.1), below_row HA.out.2.1 (by omega) _⟩
  have q2 : (no != l.nonce) = false := by simp [ho]
  have HOO := Lib.hid ho
  clear hs ho
  go_wp2_with (first | ((with_reducible show wpList _ _ _ ((⟨some 22, Op.load 24 (.tmp 5), _, _, _, _⟩ : Oper) :: _) _ _); refine wpList_load_rowG (by rfl) _ (.tmp 5) rfl w.heap.size rfl 24 C (0, 0) _ HK.out.pl.1 Try.underlying24 rfl (by rw [h11]; exact info11) ?_) | ((with_reducible show wpList _ _ _ ((⟨some 23, Op.load 26 (.tmp 6), _, _, _, _⟩ : Oper) :: _) _ _); refine wpList_load_rowG (by rfl) _ (.tmp 6) rfl (w.heap.size + 1) rfl 26 (lcs l.slot l.nonce l.asked ad n c) (0, 0) _ HK.out.lb.1 Try.underlying26 rfl info_ls ?_) | fail)
  refine (onemore_any HK.out.pl.2 HK.out.lb.2 HN.out node H2.out).mono ?_
  rintro e w4 ⟨rfl, hb4⟩
  have HZ := Lib.hid (HZ.out.below hb4 HZ.out.lt)
  have HK := Lib.hid (HK.out.on hb4)
  clear hb4 d0 d1
  by_cases hm : Ln.oneMore p l node
  case neg =>
    rw [decide_eq_false hm]
    have HE := HNO.out (fun h => hm (Ln.takes_iff.1 h).2.2)
    clear hm
    go_upto_region 2 with fail
    go_wp2_with (first | ((with_reducible show wpList _ _ _ ((⟨some 28, Op.load 26 (.tmp 6), _, _, _, _⟩ : Oper) :: _) _ _); refine wpList_load_rowG (by rfl) _ (.tmp 6) rfl (w.heap.size + 1) rfl 26 (lcs l.slot l.nonce l.asked ad n c) (0, 0) _ HK.out.lb.1 Try.underlying26 rfl info_ls ?_) | fail)
    refine (granted_any (HK.out.lb.2.s) (Ns.nil _ Any none) HN.out (Nat.zero_le _)).mono ?_
    rintro e w3 ⟨V3, rfl, ha3, hb3⟩
    obtain ⟨a3, n3, c3, rfl, hr3, hnc3, hin3⟩ := ha3
    have HA : Hid (LseS w3 (fun b => w.heap.size ≤ b ∧ b ≠ w.heap.size + 1 + 1) (lcs l.slot l.nonce l.asked a3 n3 c3) { l with fr := l.fr ++ [] } ∧ Below w.heap.size w w3 ∧ Whole w3 (w.heap.size + 1 + 1) 26 lz) := Lib.hid ⟨⟨a3, n3, c3, rfl, hr3.weak (fun b _ hb => by have := HZ.out.lt; omega), hnc3, hin3⟩, HK.out.below.trans (hb3.mono HK.out.below.size), HZ.out.below hb3 HZ.out.lt⟩
    clear hr3 hnc3 hin3 hb3
    go_wp2_with (first | ((with_reducible show wpList _ _ _ ((⟨_, Op.store 26 (.tmp 10) _, _, _, _, _⟩ : Oper) :: _) _ _); refine wpList_store_row rfl 26 (.tmp 10) (.tmp 29) rfl (w.heap.size + 1 + 1) (lcs l.slot l.nonce l.asked a3 n3 c3) rfl rfl 26 _ HA.out.2.2 info_ls rfl (by simp [lcs, Value.oneCell']) ?_) | fail)
    refine bodyPost_ret (results_one_cell rfl _ _ _ _ rfl (run_loadVar_row _ _ _ _ _ (0, 0) _ (HA.out.2.2.row (lcs l.slot l.nonce l.asked a3 n3 c3)) Try.underlying26 rfl info_ls)) rfl ?_
    rw [← HE.out]
    exact ⟨_, rfl, (HA.out.1.keep (by simp [World.setRow]) (fun b _ hb => setRow_other _ _ b _ hb.2)).weak (fun b _ hb => hb.1), below_row HA.out.2.1 (by omega) _⟩
  rw [decide_eq_true hm]
  have HE : Hid (({ l with fr := l.fr ++ [node] } : Ln.L) = r) := Lib.hid (by rw [← HR.out]; unfold Ln.grant; rw [if_pos (Ln.takes_iff.2 ⟨HSS.out, HOO.out, hm⟩)])
  clear hm
  go_upto_region 3 with fail
  go_wp2_with (first | ((with_reducible show wpList _ _ _ ((⟨some 30, Op.load 26 (.tmp 6), _, _, _, _⟩ : Oper) :: _) _ _); refine wpList_load_rowG (by rfl) _ (.tmp 6) rfl (w.heap.size + 1) rfl 26 (lcs l.slot l.nonce l.asked ad n c) (0, 0) _ HK.out.lb.1 Try.underlying26 rfl info_ls ?_) | fail)
  have hb5 := below_alloc w4 (.cells #[.int .i64 node] 3)
  have hW5 : Whole (w4.alloc (.cells #[.int .i64 node] 3)) w4.heap.size 3 (ints [node]).toArray := Whole.new w4 3 _
  have hN5 : Ns (w4.alloc (.cells #[.int .i64 node] 3)) Any (some ⟨w4.heap.size, 0, none⟩) 1 [node] := ns_whole hW5 trivial (fun x hx => by rw [List.mem_singleton.1 hx]; exact H2.out)
  have HZ := Lib.hid (HZ.out.below hb5 HZ.out.lt)
  have HK := Lib.hid (HK.out.on hb5)
  clear hb5 hW5
  generalize w4.alloc (.cells #[.int .i64 node] 3) = w5 at *
  refine (granted_any (HK.out.lb.2.s) hN5 HN.out (by decide)).mono ?_
  rintro e w3 ⟨V3, rfl, ha3, hb3⟩
  obtain ⟨a3, n3, c3, rfl, hr3, hnc3, hin3⟩ := ha3
  have HA : Hid (LseS w3 (fun b => w.heap.size ≤ b ∧ b ≠ w.heap.size + 1 + 1) (lcs l.slot l.nonce l.asked a3 n3 c3) { l with fr := l.fr ++ [node] } ∧ Below w.heap.size w w3 ∧ Whole w3 (w.heap.size + 1 + 1) 26 lz) := Lib.hid ⟨⟨a3, n3, c3, rfl, hr3.weak (fun b _ hb => by have := HZ.out.lt; omega), hnc3, hin3⟩, HK.out.below.trans (hb3.mono HK.out.below.size), HZ.out.below hb3 HZ.out.lt⟩
  clear hr3 hnc3 hin3 hb3 hN5
  go_wp2_with (first | ((with_reducible show wpList _ _ _ ((⟨_, Op.store 26 (.tmp 10) _, _, _, _, _⟩ : Oper) :: _) _ _); refine wpList_store_row rfl 26 (.tmp 10) (.tmp 33) rfl (w.heap.size + 1 + 1) (lcs l.slot l.nonce l.asked a3 n3 c3) rfl rfl 26 _ HA.out.2.2 info_ls rfl (by simp [lcs, Value.oneCell']) ?_) | fail)
  refine bodyPost_ret (results_one_cell rfl _ _ _ _ rfl (run_loadVar_row _ _ _ _ _ (0, 0) _ (HA.out.2.2.row (lcs l.slot l.nonce l.asked a3 n3 c3)) Try.underlying26 rfl info_ls)) rfl ?_
  rw [← HE.out]
  exact ⟨_, rfl, (HA.out.1.keep (by simp [World.setRow]) (fun b _ hb => setRow_other _ _ b _ hb.2)).weak (fun b _ hb => hb.1), below_row HA.out.2.1 (by omega) _⟩
end Go.Proofs.Ytegdopbiiddamaa
