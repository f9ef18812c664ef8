/-
  The package's mayBe, timesNamed, isOneMore and granters of leases.
-/
import Derived.Test.YtegdopbiiddamaaSl
import Derived.Test.YtegdopbiiddamaaS2
namespace Go.Proofs.Ytegdopbiiddamaa
open Go.RowKit Go.Great Go.Maps
set_option linter.unusedVariables false
set_option linter.unusedSimpArgs false
set_option maxRecDepth 20000
set_option maxHeartbeats 2000000 in
theorem lmay_any {w : World} {S : Nat → Prop} {C : Array Value} {p : Dr.P} (h : Cc w S C p) : Calls Try.prog 39 #[.agg C] w fun e w' => e = .returned (.bool (decide p.ok)) ∧ Below w.heap.size w w' := by
  have h11 := h.size
  have HP := Lib.hid (And.intro (Pl.new h) (below_alloc w (.cells C 24)))
  obtain ⟨w1, hw1⟩ : ∃ w1, w.alloc (.cells C 24) = w1 := ⟨_, rfl⟩
  rw [hw1] at HP
  have HW := Lib.hid hw1
  obtain ⟨t, ht⟩ : ∃ t, decide p.ok = t := ⟨_, rfl⟩
  rw [ht]
  have HT := Lib.hid ht
  clear h hw1 ht
  go_enter Try.func39, Try.ntmps39
  go_upto_region 1 with fail
  rw [HW.out]
  go_wp2_with (first | ((with_reducible show wpList _ _ _ ((⟨some 3, Op.load 24 (.tmp 1), _, _, _, _⟩ : Oper) :: _) _ _); refine wpList_load_rowG (by rfl) _ (.tmp 1) rfl w.heap.size rfl 24 C (0, 0) _ HP.out.1.1 Try.underlying24 rfl (by rw [h11]; exact info11) ?_) | fail)
  refine (check_any HP.out.1.2).mono ?_
  rintro e w2 ⟨rfl, hb⟩
  have HB := Lib.hid (HP.out.2.trans (hb.mono HP.out.2.size))
  clear hb
  by_cases hok : p.ok
  · rw [Dr.P.chk_ok hok]
    have HE : Hid (t = true) := Lib.hid (by rw [← HT.out]; exact decide_eq_true hok)
    clear hok
    go_wp2
    go_ret
    exact ⟨ret_bool HE.out.symm, HB.out⟩
  · rw [Dr.P.chk_no hok]
    have HE : Hid (t = false) := Lib.hid (by rw [← HT.out]; exact decide_eq_false hok)
    clear hok
    go_wp2
    go_ret
    exact ⟨ret_bool HE.out.symm, HB.out⟩
theorem take_snoc0 (l : List Int) {j : Nat} (h : j < l.length) : l.take (j + 1) = l.take j ++ [l.getD j 0] := by
  rw [List.take_add_one, List.getElem?_eq_getElem h]
  simp [h]
/-- How often each of a plan's nodes is named. -/
def Ln.named (p : Dr.P) (l : Ln.L) : List Nat := if p.ok then Ln.often p.nodes.toNat l.fr else []
/-- A map of them is answered. -/
def TnQ (w : World) (cs : List Nat) (e : Ending) (w' : World) : Prop := ∃ mb, e = .returned (.map (some mb)) ∧ Tn w' mb cs ∧ w.heap.size ≤ mb ∧ Below w.heap.size w w'
set_option maxHeartbeats 8000000 in
theorem named_any {w : World} {S : Nat → Prop} {C V : Array Value} {p : Dr.P} {l : Ln.L} (h : Cc w S C p) (ha : Lse w V l) (hn : l.fr.length ≤ 1000) :
    Calls Try.prog 50 #[.agg C, .agg V] w (TnQ w (Ln.named p l)) := by
  have hmm := @run_makeMap Try.prog
  have h11 := h.size
  obtain ⟨w1, hw1, hk⟩ := boxes_pl h ha
  have HW := Lib.hid hw1
  have HK := Lib.hid hk
  obtain ⟨ad, n, c, rfl, hrow, hnc, _⟩ := ha
  have HN : Hid (n ≤ 1000) := Lib.hid (by rw [← hrow.1]; exact hn)
  have HL : Hid (l.fr.length = n) := Lib.hid hrow.1
  obtain ⟨cs, hcs⟩ : ∃ cs, Ln.named p l = cs := ⟨_, rfl⟩
  rw [hcs]
  have HC := Lib.hid hcs
  clear h hw1 hk hrow hn hcs
  go_enter Try.func50, Try.ntmps50
  go_upto_region 1 with fail
  rw [HW.out]
  go_upto_region 2 with fail
  clear hmm
  have hb2 := below_alloc w1 (.map #[] 0)
  have ht2 := Tn.new w1
  have hs2 := size_alloc w1 (.map #[] 0)
  have hge := HK.out.below.size
  generalize w1.alloc (.map #[] 0) = w2 at *
  obtain ⟨mb, hmb⟩ : ∃ mb, w1.heap.size = mb := ⟨_, rfl⟩
  rw [hmb] at hb2 ht2 hs2 hge ⊢
  have HS : Hid (w1.heap.size = mb ∧ w.heap.size ≤ mb) := Lib.hid ⟨hmb, hge⟩
  have HT : Hid (Tn w2 mb [] ∧ Below mb w1 w2 ∧ mb < w2.heap.size) := Lib.hid ⟨ht2, hb2, by omega⟩
  have HK2 : Hid (Cls w w2 C (lcs l.slot l.nonce l.asked ad n c) p l) := Lib.hid (HK.out.on (by rw [hmb]; exact hb2))
  clear hb2 ht2 hs2 hge hmb
  go_wp2_with (first | ((with_reducible show wpList _ _ _ ((⟨some 12, Op.load 24 (.tmp 2), _, _, _, _⟩ : Oper) :: _) _ _); refine wpList_load_rowG (by rfl) _ (.tmp 2) rfl w.heap.size rfl 24 C (0, 0) _ HK2.out.pl.1 Try.underlying24 rfl (by rw [h11]; exact info11) ?_) | fail)
  refine (lmay_any HK2.out.pl.2).mono ?_
  rintro e w3 ⟨rfl, hb⟩
  have HT : Hid (Tn w3 mb [] ∧ Below mb w1 w3 ∧ mb < w3.heap.size) := Lib.hid ⟨HT.out.1.below hb HT.out.2.2, HT.out.2.1.trans (hb.mono (Nat.le_of_lt HT.out.2.2)), Nat.lt_of_lt_of_le HT.out.2.2 hb.size⟩
  clear hb HK2
  have HK3 : Hid (Cls w w3 C (lcs l.slot l.nonce l.asked ad n c) p l) := Lib.hid (HK.out.on (by rw [HS.out.1]; exact HT.out.2.1))
  by_cases hok : p.ok
  case neg =>
    rw [decide_eq_false hok]
    have HE : Hid (cs = []) := Lib.hid (by rw [← HC.out]; exact if_neg hok)
    clear hok
    go_wp2
    go_ret
    exact ⟨mb, rfl, by rw [HE.out]; exact HT.out.1, HS.out.2, HK3.out.below⟩
  rw [decide_eq_true hok]
  obtain ⟨N, hN⟩ : ∃ N : Nat, p.nodes = (N : Int) := ⟨p.nodes.toNat, by have := hok.1.1; omega⟩
  have hN9 : N ≤ 9 := by have := hok.1.2; omega
  have HE : Hid (cs = Ln.often N l.fr) := Lib.hid (by rw [← HC.out]; unfold Ln.named; rw [if_pos hok, hN]; rfl)
  have c0 := HK3.out.pl.cells.1
  rw [hN] at c0
  clear hok hN HC HK3
  go_wp2
  clear c0
  go_loopw [6, 18] (fun _ i wr => ∃ j : Nat, j ≤ N ∧ i = .int .i64 (j : Int) ∧ Hid (Tn wr mb (List.replicate j 0) ∧ Below mb w1 wr ∧ mb < wr.heap.size)) (fun _ i _ => N - (intOf i).toNat)
  case atStart => exact ⟨0, Nat.zero_le _, rfl, HT⟩
  case round =>
    clear HT
    obtain ⟨j, hj, rfl, HJ⟩ := hrel
    by_cases hlt : j < N
    · have q1 : (j : Int) < (N : Int) := by omega
      go_wp2_with (first | ((with_reducible show wpList _ _ _ ((⟨_, Op.mapUpdate _ _ _ _, _, _, _, _⟩ : Oper) :: _) _ _); refine wpList_update_tn wr rfl (.tmp 21) (.tmp 22) _ rfl mb (List.replicate j 0) j 0 rfl rfl rfl HJ.out.1 (by simp) (by omega) ?_) | fail)
      intro w4 ha4 hg4 hz4
      have HJ4 : Hid (Tn w4 mb (List.replicate (j + 1) 0) ∧ Below mb w1 w4 ∧ mb < w4.heap.size) := Lib.hid ⟨by
        rw [List.replicate_succ']
        exact ha4, HJ.out.2.1.grown hg4 (Nat.le_of_lt HJ.out.2.2) (fun k hk => by injection hk with hk; omega), by rw [hz4]; exact HJ.out.2.2⟩
      clear ha4 hg4 hz4
      go_wp2
      exact ⟨⟨j + 1, by omega, by go_num, HJ4⟩, by simp [intOf]; omega⟩
    obtain rfl : j = N := by omega
    have q1 : ¬ ((j : Int) < (j : Int)) := by omega
    have HK3 : Hid (Cls w wr C (lcs l.slot l.nonce l.asked ad n c) p l) := Lib.hid (HK.out.on (by rw [HS.out.1]; exact HJ.out.2.1))
    have s3 : wr.cell? ⟨w.heap.size + 1, 3, none⟩ = some (.slice ad n c) := HK3.out.lb.1.cell 3
    have HO : Hid (l.fr.take 0 = [] ∧ Tn wr mb (Ln.often j (l.fr.take 0))) := Lib.hid ⟨by simp, by rw [List.take_zero, Ln.often_nil]; exact HJ.out.1⟩
    go_wp2
    clear s3 HK3
    have HJ0 : Hid (Tn wr mb (Ln.often j (l.fr.take 0)) ∧ Below mb w1 wr ∧ mb < wr.heap.size) := Lib.hid ⟨HO.out.2, HJ.out.2⟩
    clear HO HJ q1
    go_loopw [8, 9, 10, 27] (fun _ _ _ i ws => ∃ k : Nat, k ≤ n ∧ i = .int .i64 (k : Int) ∧ Hid (Tn ws mb (Ln.often j (l.fr.take k)) ∧ Below mb w1 ws ∧ mb < ws.heap.size)) (fun _ _ _ i _ => n - (intOf i).toNat)
    case atStart => exact ⟨0, Nat.zero_le _, rfl, HJ0⟩
    case round =>
      clear HJ0
      obtain ⟨k, hk, rfl, HJ⟩ := hrel
      by_cases hkn : k < n
      case neg =>
        have q1 : ¬ ((k : Int) < (n : Int)) := by omega
        have HF : Hid (Tn wr mb cs) := Lib.hid (by rw [HE.out]; have := HJ.out.1; rw [List.take_of_length_le (by rw [HL.out]; omega)] at this; exact this)
        have HK3 : Hid (Cls w wr C (lcs l.slot l.nonce l.asked ad n c) p l) := Lib.hid (HK.out.on (by rw [HS.out.1]; exact HJ.out.2.1))
        go_wp2
        go_ret
        exact ⟨mb, rfl, HF.out, HS.out.2, HK3.out.below⟩
      have q1 : (k : Int) < (n : Int) := by omega
      have hrow := HK.out.lb.2.row.old.below HJ.out.2.1 (fun b _ hb => by rw [← HS.out.1]; exact hb)
      obtain ⟨b, off, rfl, _, _, hc⟩ := hrow.cell hkn
      have hin := hrow.in64 k
      have hsn := take_snoc0 l.fr (j := k) (by rw [HL.out]; exact hkn)
      obtain ⟨x, hx⟩ : ∃ x, l.fr.getD k 0 = x := ⟨_, rfl⟩
      rw [hx] at hc hin hsn
      have HX : Hid (In64 x) := Lib.hid hin
      have HSN : Hid (l.fr.take (k + 1) = l.fr.take k ++ [x]) := Lib.hid hsn
      have hol := Ln.often_len j (l.fr.take k)
      clear hrow hx hin hsn
      have hkn1 := HN.out
      by_cases hh : 0 ≤ x ∧ x < (j : Int)
      · obtain ⟨i, rfl⟩ : ∃ i : Nat, x = (i : Int) := ⟨x.toNat, by omega⟩
        have hij : i < j := by omega
        have hget := Ln.often_get j (l.fr.take k) hij
        have hhit := Ln.often_hit (l := l.fr.take k) hij
        have hcl : (l.fr.take k).count (i : Int) ≤ k := Nat.le_trans List.count_le_length (List.length_take_le _ _)
        obtain ⟨c2, hc2⟩ : ∃ c2, (l.fr.take k).count (i : Int) = c2 := ⟨_, rfl⟩
        rw [hc2] at hget hhit hcl
        obtain ⟨d2, hd2⟩ : ∃ d2, c2 + 1 = d2 := ⟨_, rfl⟩
        rw [hd2] at hhit
        have hlk := tn_lookup HJ.out.1 hget true
        have hlk2 := tn_lookup HJ.out.1 hget false
        have hwr : IntKind.i64.wrap ((c2 : Int) + 1) = (d2 : Int) := by rw [IntKind.wrap_i64]; omega
        have HHIT : Hid (Ln.often j (l.fr.take (k + 1)) = (Ln.often j (l.fr.take k)).set i d2) := Lib.hid (by rw [HSN.out]; exact hhit)
        simp only [if_pos, if_neg, Bool.false_eq_true, if_false, if_true] at hlk hlk2
        clear hc2 hd2 hhit hget hh hcl
        go_wp2_with (first | ((with_reducible show wpList _ _ _ ((⟨_, Op.mapUpdate _ _ _ _, _, _, _, _⟩ : Oper) :: _) _ _); refine wpList_update_tn wr rfl (.tmp 38) (.tmp 39) (.tmp 41) rfl mb (Ln.often j (l.fr.take k)) i d2 rfl rfl rfl HJ.out.1 (by rw [hol]; omega) (by omega) ?_) | fail)
        intro w4 ha4 hg4 hz4
        have HJ4 : Hid (Tn w4 mb (Ln.often j (l.fr.take (k + 1))) ∧ Below mb w1 w4 ∧ mb < w4.heap.size) := Lib.hid ⟨by
          rw [HHIT.out]
          exact ha4, HJ.out.2.1.grown hg4 (Nat.le_of_lt HJ.out.2.2) (fun k hk => by injection hk with hk; omega), by rw [hz4]; exact HJ.out.2.2⟩
        clear ha4 hg4 hz4 hlk hlk2 hwr hol
        go_wp2
        exact ⟨⟨k + 1, by omega, by go_num, HJ4⟩, by simp [intOf]; omega⟩
      · have hlk := tn_lookup_no HJ.out.1 HX.out (by rw [hol]; exact hh)
        have HJ4 : Hid (Tn wr mb (Ln.often j (l.fr.take (k + 1))) ∧ Below mb w1 wr ∧ mb < wr.heap.size) := Lib.hid ⟨by rw [HSN.out, Ln.often_miss hh]; exact HJ.out.1, HJ.out.2⟩
        clear hh hol
        go_wp2
        exact ⟨⟨k + 1, by omega, by go_num, HJ4⟩, by simp [intOf]; omega⟩
def Ln.oneMore (p : Dr.P) (l : Ln.L) (node : Int) : Prop := p.ok ∧ 0 ≤ node ∧ node < p.nodes ∧ node ∉ l.fr
instance (p : Dr.P) (l : Ln.L) (node : Int) : Decidable (Ln.oneMore p l node) := by unfold Ln.oneMore; infer_instance
theorem Ln.named_get {p : Dr.P} {l : Ln.L} {i : Nat} (hok : p.ok) (h : (i : Int) < p.nodes) : (Ln.named p l)[i]? = some (l.fr.count (i : Int)) := by
  unfold Ln.named
  rw [if_pos hok]
  exact Ln.often_get _ _ (by omega)
theorem Ln.named_len {p : Dr.P} {l : Ln.L} (hok : p.ok) : ((Ln.named p l).length : Int) = p.nodes := by
  unfold Ln.named
  rw [if_pos hok, Ln.often_len]
  have := hok.1.1
  omega
theorem Ln.named_no {p : Dr.P} {l : Ln.L} (hok : ¬ p.ok) : Ln.named p l = [] := if_neg hok
set_option maxHeartbeats 8000000 in
theorem onemore_any {w : World} {S : Nat → Prop} {C V : Array Value} {p : Dr.P} {l : Ln.L} (h : Cc w S C p) (ha : Lse w V l) (hn : l.fr.length ≤ 1000) (node : Int) (h2 : In64 node) :
    Calls Try.prog 30 #[.agg C, .agg V, .int .i64 node] w fun e w' => e = .returned (.bool (decide (Ln.oneMore p l node))) ∧ Below w.heap.size w w' := by
  have h11 := h.size
  obtain ⟨w1, hw1, hk⟩ := boxes_pl h ha
  have HW := Lib.hid hw1
  have HK := Lib.hid hk
  obtain ⟨ad, n, c, rfl, hrow, hnc, _⟩ := ha
  have HN := Lib.hid hn
  have H2 := Lib.hid h2
  obtain ⟨t, ht⟩ : ∃ t, decide (Ln.oneMore p l node) = t := ⟨_, rfl⟩
  rw [ht]
  have HT := Lib.hid ht
  clear h hw1 hk hrow hn ht h2
  go_enter Try.func30, Try.ntmps30
  go_upto_region 1 with fail
  rw [HW.out]
  go_wp2_with (first | ((with_reducible show wpList _ _ _ ((⟨some 10, Op.load 24 (.tmp 3), _, _, _, _⟩ : Oper) :: _) _ _); refine wpList_load_rowG (by rfl) _ (.tmp 3) rfl w.heap.size rfl 24 C (0, 0) _ HK.out.pl.1 Try.underlying24 rfl (by rw [h11]; exact info11) ?_) | ((with_reducible show wpList _ _ _ ((⟨some 11, Op.load 26 (.tmp 4), _, _, _, _⟩ : Oper) :: _) _ _); refine wpList_load_rowG (by rfl) _ (.tmp 4) rfl (w.heap.size + 1) rfl 26 (lcs l.slot l.nonce l.asked ad n c) (0, 0) _ HK.out.lb.1 Try.underlying26 rfl info_ls ?_) | fail)
  refine (named_any HK.out.pl.2 HK.out.lb.2 HN.out).mono ?_
  rintro e w2 ⟨mb, rfl, hm, hge, hb⟩
  have HM := Lib.hid (And.intro hm (HK.out.below.trans (hb.mono HK.out.below.size)))
  clear hm hge hb
  by_cases hr : p.ok ∧ 0 ≤ node ∧ node < p.nodes
  case neg =>
    have HE : Hid (t = false) := Lib.hid (by rw [← HT.out]; exact decide_eq_false fun h => hr ⟨h.1, h.2.1, h.2.2.1⟩)
    have hlk := tn_lookup_no HM.out.1 H2.out (by
      by_cases hok : p.ok
      · rw [Ln.named_len hok]; exact fun h => hr ⟨hok, h⟩
      · rw [Ln.named_no hok]; simp <;> omega)
    clear hr
    go_wp2
    go_ret
    exact ⟨ret_bool HE.out.symm, HM.out.2⟩
  obtain ⟨i, rfl⟩ : ∃ i : Nat, node = (i : Int) := ⟨node.toNat, by omega⟩
  have hlk := tn_lookup HM.out.1 (Ln.named_get (l := l) hr.1 hr.2.2) true
  simp only [if_true] at hlk
  obtain ⟨k, hk⟩ : ∃ k, l.fr.count (i : Int) = k := ⟨_, rfl⟩
  rw [hk] at hlk
  by_cases hz : k = 0
  · subst hz
    have HE : Hid (t = true) := Lib.hid (by rw [← HT.out]; exact decide_eq_true ⟨hr.1, hr.2.1, hr.2.2, List.count_eq_zero.1 hk⟩)
    clear hr hk
    go_wp2
    go_ret
    exact ⟨ret_bool HE.out.symm, HM.out.2⟩
  · have HE : Hid (t = false) := Lib.hid (by rw [← HT.out]; exact decide_eq_false fun h => hz (by rw [← hk]; exact List.count_eq_zero.2 h.2.2.2))
    have q1 : ((k : Int) == 0) = false := by simp [hz]
    clear hr hk hz
    go_wp2
    go_ret
    exact ⟨ret_bool HE.out.symm, HM.out.2⟩
/-- How many of a plan's nodes granted a lease. -/
def Ln.grs (p : Dr.P) (l : Ln.L) : Nat := if p.ok then Ln.cnt l.fr p.nodes.toNat else 0
theorem Ln.grs_num (p : Dr.P) (l : Ln.L) : Ln.num (fun i => decide (0 < (Ln.named p l).getD i 0)) (Ln.named p l).length = Ln.grs p l := by
  unfold Ln.grs
  by_cases hok : p.ok
  · rw [if_pos hok]
    have hl := Ln.named_len (l := l) hok
    rw [show (Ln.named p l).length = p.nodes.toNat by omega]
    refine Ln.num_cnt _ _ _ fun i hi => ?_
    rw [List.getD_eq_getElem?_getD, Ln.named_get hok (by omega)]
    rfl
  · rw [if_neg hok, Ln.named_no hok]
    rfl
set_option maxHeartbeats 8000000 in
theorem granters_any {w : World} {S : Nat → Prop} {C V : Array Value} {p : Dr.P} {l : Ln.L} (h : Cc w S C p) (ha : Lse w V l) (hn : l.fr.length ≤ 1000) :
    Calls Try.prog 35 #[.agg C, .agg V] w fun e w' => e = .returned (.int .i64 (Ln.grs p l : Int)) ∧ Below w.heap.size w w' := by
  have h11 := h.size
  obtain ⟨w1, hw1, hk⟩ := boxes_pl h ha
  have HW := Lib.hid hw1
  have HK := Lib.hid hk
  obtain ⟨ad, n, c, rfl, hrow, hnc, _⟩ := ha
  have HN := Lib.hid hn
  obtain ⟨cs, hcs⟩ : ∃ cs, Ln.named p l = cs := ⟨_, rfl⟩
  obtain ⟨g, hg⟩ : ∃ g, Ln.grs p l = g := ⟨_, rfl⟩
  have hnum := Ln.grs_num p l
  rw [hg, hcs] at hnum
  rw [hg]
  have HG := Lib.hid hnum
  have HC := Lib.hid hcs
  clear h hw1 hk hrow hn hcs hg hnum
  go_enter Try.func35, Try.ntmps35
  go_upto_region 1 with fail
  rw [HW.out]
  go_wp2_with (first | ((with_reducible show wpList _ _ _ ((⟨some 8, Op.load 24 (.tmp 2), _, _, _, _⟩ : Oper) :: _) _ _); refine wpList_load_rowG (by rfl) _ (.tmp 2) rfl w.heap.size rfl 24 C (0, 0) _ HK.out.pl.1 Try.underlying24 rfl (by rw [h11]; exact info11) ?_) | ((with_reducible show wpList _ _ _ ((⟨some 9, Op.load 26 (.tmp 3), _, _, _, _⟩ : Oper) :: _) _ _); refine wpList_load_rowG (by rfl) _ (.tmp 3) rfl (w.heap.size + 1) rfl 26 (lcs l.slot l.nonce l.asked ad n c) (0, 0) _ HK.out.lb.1 Try.underlying26 rfl info_ls ?_) | fail)
  refine (named_any HK.out.pl.2 HK.out.lb.2 HN.out).mono ?_
  rintro e w2 ⟨mb, rfl, hm, hge, hb⟩
  rw [HC.out] at hm
  have HM := Lib.hid (And.intro hm (HK.out.below.trans (hb.mono HK.out.below.size)))
  clear hm hge hb HC HK
  go_wp2_with (at_range; refine wpList_range_tn w2 rfl (.tmp 10) rfl mb cs rfl HM.out.1 ?_; intro w3 hrg0 hg0 hs0)
  go_frame
  obtain ⟨R, hR⟩ : ∃ R, w2.heap.size = R := ⟨_, rfl⟩
  rw [hR] at hrg0 hs0 ⊢
  have hcl := HM.out.1.1
  have H0 : Hid (Trg w3 R mb cs (fun _ => false) cs.length ∧ Below w.heap.size w w3 ∧ w.heap.size ≤ R) := Lib.hid ⟨hrg0, HM.out.2.grown hg0 HM.out.2.size (fun k hk => by cases hk), by rw [← hR]; exact HM.out.2.size⟩
  have hn0 : Ln.num (fun i => false && decide (0 < cs.getD i 0)) cs.length = 0 := Ln.num_none fun i _ => rfl
  have HN0 := Lib.hid hn0
  clear hrg0 hg0 hs0 hR HM hn0
  go_loopw [5, 7] (fun m _ wr => ∃ (k : Nat), m = .int .i64 (k : Int) ∧ Hid (∃ d c, Trg wr R mb cs d c ∧ Ln.num (fun i => d i && decide (0 < cs.getD i 0)) cs.length = k ∧ Below w.heap.size w wr)) (fun _ _ wr => wr.rangeLeft mb R)
  case atStart => exact ⟨0, rfl, Lib.hid ⟨_, _, H0.out.1, HN0.out, H0.out.2.1⟩⟩
  case round =>
    obtain ⟨k, rfl, hJ⟩ := hrel
    obtain ⟨d, c1, hrg, hnum, hbl⟩ := hJ.out
    have HJ := Lib.hid (And.intro hnum hbl)
    have HL := Lib.hid hrg.left
    have hkl : k ≤ cs.length := by rw [← hnum]; exact Ln.num_le _ _
    clear hJ hnum hbl
    go_wp2_with (at_next; refine wpList_next_tn wr rfl (.tmp 11) rfl R mb cs d c1 rfl hrg ?_ ?_)
    · intro hall
      have HE : Hid (k = g) := Lib.hid (by
        rw [← HJ.out.1, ← HG.out]
        exact Ln.num_ext fun i hi => by rw [hall i hi]; rfl)
      clear hall hrg
      go_wp2
      go_ret
      exact ⟨ret_i64 (by rw [HE.out]), HJ.out.2⟩
    · intro i x w4 c2 hx hdi hrg2 hlt hg2 hs2 hen
      have hxd : cs.getD i 0 = x := by rw [List.getD_eq_getElem?_getD, hx]; rfl
      have hil := (List.getElem?_eq_some_iff.1 hx).1
      have HB4 : Hid (Trg w4 R mb cs (fun j => d j || j == i) c2 ∧ Below w.heap.size w w4 ∧ c2 < c1) := Lib.hid ⟨hrg2, HJ.out.2.grown hg2 HJ.out.2.size (fun k hk => by injection hk with hk; rw [← hk]; exact H0.out.2.2), hlt⟩
      have HD := Lib.hid (And.intro hdi (And.intro hxd hil))
      clear hx hdi hrg2 hlt hg2 hs2 hxd hil hrg
      by_cases hz : x = 0
      · subst hz
        have HE : Hid (Ln.num (fun j => (d j || j == i) && decide (0 < cs.getD j 0)) cs.length = k) := Lib.hid (by
          rw [← HJ.out.1]
          refine Ln.num_ext fun j hj => ?_
          by_cases e : j = i
          · subst e; rw [HD.out.2.1]; simp
          · have : (j == i) = false := by simp [e]
            rw [this, Bool.or_false])
        go_wp2
        go_roundw
        case rel => exact ⟨k, rfl, Lib.hid ⟨_, _, HB4.out.1, HE.out, HB4.out.2.1⟩⟩
        case measure => rw [HB4.out.1.left, HL.out]; exact HB4.out.2.2
      · have HE : Hid (Ln.num (fun j => (d j || j == i) && decide (0 < cs.getD j 0)) cs.length = k + 1) := Lib.hid (by
          rw [← HJ.out.1]
          refine Ln.num_more HD.out.2.2 ?_ ?_ fun j hj => ?_
          · rw [HD.out.1]; rfl
          · rw [HD.out.2.1]; simp; omega
          · have : (j == i) = false := by simp [hj]
            rw [this, Bool.or_false])
        have q1 : (x : Int) > 0 := by omega
        have hwr : IntKind.i64.wrap ((k : Int) + 1) = ((k + 1 : Nat) : Int) := by rw [IntKind.wrap_i64]; omega
        clear hz
        go_wp2
        go_roundw
        case rel => exact ⟨k + 1, by go_num, Lib.hid ⟨_, _, HB4.out.1, HE.out, HB4.out.2.1⟩⟩
        case measure => rw [HB4.out.1.left, HL.out]; exact HB4.out.2.2
end Go.Proofs.Ytegdopbiiddamaa
