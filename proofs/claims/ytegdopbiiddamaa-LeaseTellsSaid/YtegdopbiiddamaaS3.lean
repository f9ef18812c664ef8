/-
  The walks of the document's Late, Fits and Slot of leases.
-/
import Derived.Test.YtegdopbiiddamaaS2
namespace Go.Proofs.Ytegdopbiiddamaa
open Go.RowKit Go.Great
set_option linter.unusedVariables false
set_option linter.unusedSimpArgs false
set_option maxRecDepth 20000
set_option maxHeartbeats 8000000 in
theorem rllate_any {w : World} {S : Nat → Prop} {C V : Array Value} {p : Dr.P} {l : Ln.L} (h : Cc w S C p) (ha : Lse w V l) (hn : l.fr.length ≤ 1000000) (now : Int) : Calls Try.prog 17 #[.agg C, .agg V, .int .i64 now] w fun e w' => e = .returned (.bool (Ln.late p l now)) ∧ Below w.heap.size w w' := by
  have h11 := h.size
  obtain ⟨w1, hw1, hk⟩ := boxes_pl h ha
  have HW := Lib.hid hw1
  have HK := Lib.hid hk
  obtain ⟨ad, n, c, rfl, hrow, hnc, _⟩ := ha
  have HN := Lib.hid hn
  obtain ⟨t, ht⟩ : ∃ t, Ln.late p l now = t := ⟨_, rfl⟩
  rw [ht]
  have HT := Lib.hid ht
  clear h hw1 hk hrow hn ht
  go_enter Try.func17, Try.ntmps17
  go_upto_region 1 with fail
  rw [HW.out]
  go_wp2_with (first | ((with_reducible show wpList _ _ _ ((⟨some 8, Op.load 24 (.tmp 3), _, _, _, _⟩ : Oper) :: _) _ _); refine wpList_load_rowG (by rfl) _ (.tmp 3) rfl w.heap.size rfl 24 C (0, 0) _ HK.out.pl.1 Try.underlying24 rfl (by rw [h11]; exact info11) ?_) | fail)
  refine (rcheck_any HK.out.pl.2).mono ?_
  rintro e w2 ⟨rfl, hb⟩
  have HK := Lib.hid (HK.out.on hb)
  clear hb
  by_cases hok : p.ok
  case neg =>
    have HE : Hid (t = false) := Lib.hid (by rw [← HT.out]; unfold Ln.late; rw [decide_eq_false hok]; rfl)
    rw [Dr.P.chk_no hok]
    clear hok
    go_wp2
    go_ret
    exact ⟨ret_bool HE.out.symm, HK.out.below⟩
  have HE : Hid (t = (!Ln.held p l now || p.late l.asked now)) := Lib.hid (by rw [← HT.out]; unfold Ln.late; rw [decide_eq_true hok]; rfl)
  rw [Dr.P.chk_ok hok]
  clear hok
  go_wp2_with (first | ((with_reducible show wpList _ _ _ ((⟨some 11, Op.load 24 (.tmp 3), _, _, _, _⟩ : Oper) :: _) _ _); refine wpList_load_rowG (by rfl) _ (.tmp 3) rfl w.heap.size rfl 24 C (0, 0) _ HK.out.pl.1 Try.underlying24 rfl (by rw [h11]; exact info11) ?_) | ((with_reducible show wpList _ _ _ ((⟨some 12, Op.load 26 (.tmp 4), _, _, _, _⟩ : Oper) :: _) _ _); refine wpList_load_rowG (by rfl) _ (.tmp 4) rfl (w.heap.size + 1) rfl 26 (lcs l.slot l.nonce l.asked ad n c) (0, 0) _ HK.out.lb.1 Try.underlying26 rfl info_ls ?_) | fail)
  refine (rheld_any HK.out.pl.2 HK.out.lb.2 HN.out now).mono ?_
  rintro e w3 ⟨rfl, hb⟩
  have HK := Lib.hid (HK.out.on hb)
  clear hb
  obtain ⟨b, hb⟩ : ∃ b, Ln.held p l now = b := ⟨_, rfl⟩
  rw [hb] at HE ⊢
  clear hb
  cases b
  case false =>
    go_wp2
    go_ret
    exact ⟨ret_bool HE.out.symm, HK.out.below⟩
  have s2 : w3.cell? ⟨w.heap.size + 1, 2, none⟩ = some (.int .i64 l.asked) := HK.out.lb.1.cell 2
  go_wp2_with (first | ((with_reducible show wpList _ _ _ ((⟨some 18, Op.load 24 (.tmp 3), _, _, _, _⟩ : Oper) :: _) _ _); refine wpList_load_rowG (by rfl) _ (.tmp 3) rfl w.heap.size rfl 24 C (0, 0) _ HK.out.pl.1 Try.underlying24 rfl (by rw [h11]; exact info11) ?_) | fail)
  refine (rlate_any HK.out.pl.2 l.asked now).mono ?_
  rintro e w4 ⟨rfl, hb⟩
  have HK := Lib.hid (HK.out.on hb)
  clear hb s2
  obtain ⟨b, hb⟩ : ∃ b, p.late l.asked now = b := ⟨_, rfl⟩
  rw [hb] at HE ⊢
  clear hb
  go_wp2
  go_ret
  exact ⟨ret_bool HE.out.symm, HK.out.below⟩
set_option maxHeartbeats 8000000 in
theorem rfits_any {w : World} {S : Nat → Prop} {C V : Array Value} {p : Dr.P} {l : Ln.L} (h : Cc w S C p) (ha : Lse w V l) (hn : l.fr.length ≤ 1000000) (now : Int) : Calls Try.prog 19 #[.agg C, .agg V, .int .i64 now] w fun e w' => e = .returned (.bool (Ln.fits p l now)) ∧ Below w.heap.size w w' := by
  have h11 := h.size
  obtain ⟨w1, hw1, hk⟩ := boxes_pl h ha
  have HW := Lib.hid hw1
  have HK := Lib.hid hk
  obtain ⟨ad, n, c, rfl, hrow, hnc, _⟩ := ha
  have HN := Lib.hid hn
  obtain ⟨t, ht⟩ : ∃ t, Ln.fits p l now = t := ⟨_, rfl⟩
  rw [ht]
  have HT := Lib.hid ht
  clear h hw1 hk hrow hn ht
  go_enter Try.func19, Try.ntmps19
  go_upto_region 1 with fail
  rw [HW.out]
  go_wp2_with (first | ((with_reducible show wpList _ _ _ ((⟨some 8, Op.load 24 (.tmp 3), _, _, _, _⟩ : Oper) :: _) _ _); refine wpList_load_rowG (by rfl) _ (.tmp 3) rfl w.heap.size rfl 24 C (0, 0) _ HK.out.pl.1 Try.underlying24 rfl (by rw [h11]; exact info11) ?_) | ((with_reducible show wpList _ _ _ ((⟨some 9, Op.load 26 (.tmp 4), _, _, _, _⟩ : Oper) :: _) _ _); refine wpList_load_rowG (by rfl) _ (.tmp 4) rfl (w.heap.size + 1) rfl 26 (lcs l.slot l.nonce l.asked ad n c) (0, 0) _ HK.out.lb.1 Try.underlying26 rfl info_ls ?_) | fail)
  refine (rheld_any HK.out.pl.2 HK.out.lb.2 HN.out now).mono ?_
  rintro e w3 ⟨rfl, hb⟩
  have HK := Lib.hid (HK.out.on hb)
  clear hb
  by_cases hh : Ln.held p l now = true
  case neg =>
    have hh' : Ln.held p l now = false := by simpa using hh
    have HE : Hid (t = false) := Lib.hid (by rw [← HT.out]; unfold Ln.fits; rw [hh']; rfl)
    rw [hh']
    clear hh hh'
    go_wp2
    go_ret
    exact ⟨ret_bool HE.out.symm, HK.out.below⟩
  have hhold : p.holds l.asked now = true := by unfold Ln.held at hh; exact (Bool.and_eq_true_iff.1 hh).1
  obtain ⟨hok, ⟨w1', w2', w3'⟩, _⟩ := of_decide_eq_true hhold
  obtain ⟨_, _, _, ⟨⟨a1, a2⟩, _, ⟨a3, a4⟩, ⟨a5, a6⟩⟩, _⟩ := hok
  obtain ⟨ho, hho⟩ : ∃ x, p.hold = x := ⟨_, rfl⟩
  obtain ⟨gu, hgu⟩ : ∃ x, p.guard = x := ⟨_, rfl⟩
  obtain ⟨wo, hwo⟩ : ∃ x, p.work = x := ⟨_, rfl⟩
  have HE : Hid (t = decide (ho - (now - l.asked) > gu + wo)) := Lib.hid (by rw [← HT.out]; unfold Ln.fits; rw [hh, hho, hgu, hwo]; rfl)
  have c3 := HK.out.pl.more.1
  have c5 := HK.out.pl.more.2.1
  have c6 := HK.out.pl.more.2.2
  rw [hho] at c3 a1 a2
  rw [hgu] at c5 a3 a4
  rw [hwo] at c6 a5 a6
  have s2 : w3.cell? ⟨w.heap.size + 1, 2, none⟩ = some (.int .i64 l.asked) := HK.out.lb.1.cell 2
  obtain ⟨ak, hak⟩ : ∃ ak, l.asked = ak := ⟨_, rfl⟩
  rw [hak] at s2 HE w1' w2'
  have e1 : IntKind.i64.wrap (now - ak) = now - ak := by rw [IntKind.wrap_i64]; omega
  have e2 : IntKind.i64.wrap (ho - (now - ak)) = ho - (now - ak) := by rw [IntKind.wrap_i64]; omega
  have e3 : IntKind.i64.wrap (gu + wo) = gu + wo := by rw [IntKind.wrap_i64]; omega
  rw [hh]
  clear hh hhold hho hgu hwo w1' w2' w3' a1 a2 a3 a4 a5 a6 hak
  obtain ⟨bb, hbb⟩ : ∃ bb, decide (ho - (now - ak) > gu + wo) = bb := ⟨_, rfl⟩
  rw [hbb] at HE
  have hbb' : decide (gu + wo < ho - (now - ak)) = bb := hbb
  go_wp2
  go_ret
  exact ⟨ret_bool HE.out.symm, HK.out.below⟩
set_option maxHeartbeats 8000000 in
theorem rslot_any {w : World} {S : Nat → Prop} {C : Array Value} {p : Dr.P} (h : Cc w S C p) (node n : Int) : Calls Try.prog 21 #[.agg C, .int .i64 node, .int .i64 n] w fun e w' => e = .returned (.int .i64 (Ln.slot p node n)) ∧ Below w.heap.size w w' := by
  have h11 := h.size
  have HK : Hid (Pl (w.alloc (.cells C 24)) w.heap.size C p ∧ Below w.heap.size w (w.alloc (.cells C 24))) := Lib.hid ⟨Pl.new h, below_alloc w _⟩
  obtain ⟨t, ht⟩ : ∃ t, Ln.slot p node n = t := ⟨_, rfl⟩
  rw [ht]
  have HT := Lib.hid ht
  have HNO : Hid (¬ (p.ok ∧ 0 ≤ node ∧ node ≤ 1000 ∧ 0 ≤ n ∧ n ≤ 1099511627776) → t = 0) := Lib.hid fun hno => by rw [← HT.out]; exact if_neg hno
  clear h ht
  go_enter Try.func21, Try.ntmps21
  go_upto_region 1 with fail
  generalize w.alloc (.cells C 24) = w1 at *
  go_wp2_with (first | ((with_reducible show wpList _ _ _ ((⟨some 7, Op.load 24 (.tmp 3), _, _, _, _⟩ : Oper) :: _) _ _); refine wpList_load_rowG (by rfl) _ (.tmp 3) rfl w.heap.size rfl 24 C (0, 0) _ HK.out.1.1 Try.underlying24 rfl (by rw [h11]; exact info11) ?_) | fail)
  refine (rcheck_any HK.out.1.2).mono ?_
  rintro e w2 ⟨rfl, hb⟩
  have HK := Lib.hid (And.intro (HK.out.1.on hb) (HK.out.2.trans (hb.mono HK.out.2.size)))
  clear hb
  by_cases hok : p.ok
  case neg =>
    have HE : Hid (t = 0) := Lib.hid (HNO.out fun h => hok h.1)
    rw [Dr.P.chk_no hok]
    clear hok
    go_wp2
    go_ret
    exact ⟨ret_i64 HE.out.symm, HK.out.2⟩
  rw [Dr.P.chk_ok hok]
  obtain ⟨K, hK⟩ : ∃ K : Nat, p.slots = (K : Int) := ⟨p.slots.toNat, by have := hok.2.1.1; omega⟩
  have hK9 : 1 ≤ K ∧ K ≤ 9 := by have h1 := hok.2.1; have h2 := hok.1; unfold Dr.P.g1 at h1; unfold Dr.P.g0 at h2; omega
  have HOK := Lib.hid (And.intro hok hK)
  have c1 := HK.out.1.cells.2.1
  rw [hK] at c1
  clear hok hK
  by_cases z1 : node < 0
  · have HE : Hid (t = 0) := Lib.hid (HNO.out fun h => by omega)
    go_wp2
    go_ret
    exact ⟨ret_i64 HE.out.symm, HK.out.2⟩
  by_cases z2 : node > 1000
  · have HE : Hid (t = 0) := Lib.hid (HNO.out fun h => by omega)
    go_wp2
    go_ret
    exact ⟨ret_i64 HE.out.symm, HK.out.2⟩
  by_cases z3 : n < 0
  · have HE : Hid (t = 0) := Lib.hid (HNO.out fun h => by omega)
    go_wp2
    go_ret
    exact ⟨ret_i64 HE.out.symm, HK.out.2⟩
  by_cases z4 : n > 1099511627776
  · have HE : Hid (t = 0) := Lib.hid (HNO.out fun h => by omega)
    go_wp2
    go_ret
    exact ⟨ret_i64 HE.out.symm, HK.out.2⟩
  have HE : Hid (t = (node + n) % (K : Int)) := Lib.hid (by
    rw [← HT.out]
    unfold Ln.slot
    rw [if_pos ⟨HOK.out.1, by omega, by omega, by omega, by omega⟩, HOK.out.2])
  have d4 : decide (n > 1099511627776) = false := decide_eq_false z4
  have e1 : IntKind.i64.wrap (node + n) = node + n := by rw [IntKind.wrap_i64]; omega
  have hm0 := Int.emod_nonneg (node + n) (show (K : Int) ≠ 0 by omega)
  have hm1 := Int.emod_lt_of_pos (node + n) (show (0 : Int) < (K : Int) by omega)
  have e2 : (node + n).tmod (K : Int) = (node + n) % (K : Int) := Int.tmod_eq_emod_of_nonneg (by omega)
  have e3 : IntKind.i64.wrap ((node + n) % (K : Int)) = (node + n) % (K : Int) := by rw [IntKind.wrap_i64]; omega
  have k0 : ¬ (K = 0) := by omega
  clear hm0 hm1
  go_wp2
  go_ret
  exact ⟨ret_i64 HE.out.symm, HK.out.2⟩
end Go.Proofs.Ytegdopbiiddamaa
