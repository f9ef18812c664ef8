/-
  The walk of LeaseFits.
-/
import Derived.Test.YtegdopbiiddamaaS6
namespace Go.Proofs.Ytegdopbiiddamaa
open Go.RowKit Go.Great
set_option linter.unusedVariables false
set_option linter.unusedSimpArgs false
set_option maxRecDepth 20000
theorem fits_late {p : Dr.P} {l : Ln.L} {now : Int} (hok : p.ok) (hf : Ln.fits p l now = true) : Ln.late p l now = false := by
  unfold Ln.fits at hf
  obtain ⟨hh, hd⟩ := Bool.and_eq_true_iff.1 hf
  have hd := of_decide_eq_true hd
  have hhold : p.holds l.asked now = true := by unfold Ln.held at hh; exact (Bool.and_eq_true_iff.1 hh).1
  obtain ⟨_, htw, _⟩ := of_decide_eq_true hhold
  obtain ⟨_, _, _, ⟨_, _, _, ⟨a5, a6⟩⟩, _⟩ := hok
  unfold Ln.late
  rw [hh]
  have : p.late l.asked now = false := decide_eq_false fun h => by
    rcases h.2 with h | h
    · exact h htw
    · omega
  rw [this]
  simp
theorem late_held {p : Dr.P} {l : Ln.L} {now : Int} (hok : p.ok) (hl : Ln.late p l now = false) : Ln.held p l now = true := by
  unfold Ln.late at hl
  rw [decide_eq_true hok, Bool.true_and] at hl
  simpa using (Bool.or_eq_false_iff.1 hl).1
theorem held_back {p : Dr.P} {l : Ln.L} {now ah : Int} (hh : Ln.held p l now = true) (h1 : l.asked ≤ ah) (h2 : ah ≤ now) : Ln.held p l ah = true := by
  unfold Ln.held at hh ⊢
  obtain ⟨hh, hc⟩ := Bool.and_eq_true_iff.1 hh
  rw [hc, Bool.and_true]
  obtain ⟨hok, ⟨t1, t2, t3⟩, hlt⟩ := of_decide_eq_true hh
  exact decide_eq_true ⟨hok, ⟨t1, h1, by omega⟩, by omega⟩
set_option maxHeartbeats 8000000 in
theorem lfits_walk (hg : Lea) (hw : LAwake) {w : World} {S : Nat → Prop} {C V : Array Value} {p : Dr.P} {l : Ln.L} (h : Cc w S C p) (ha : Lse w V l) (now bk : Int) (h1 : In64 now) (h2 : 0 ≤ bk ∧ bk < 65536) :
    Calls Try.prog 4 #[.agg C, .agg V, .int .i64 now, .int .u16 bk] w fun e w' => e = .returned (.bool true) ∧ Below w.heap.size w w' := by
  have HI := Lib.hid (And.intro h1 h2)
  clear h1 h2
  have h11 := h.size
  have HG := Lib.hid hg
  have HA := Lib.hid hw
  obtain ⟨w1, hw1, hk⟩ := boxes_pl h ha
  have HW := Lib.hid hw1
  obtain ⟨g2, hg2⟩ : ∃ g, w.heap.size + 1 = g := ⟨_, rfl⟩
  have HK : Hid (LKit w w1 w.heap.size C p [(g2, V, l)]) := Lib.hid ⟨hk.pl, (fun q hq => by rw [List.mem_singleton.1 hq, ← hg2]; exact hk.lb), hk.below⟩
  clear hg hw h hw1 hk
  obtain ⟨ad, n, c, eV, hrow, _⟩ := ha
  have hl : l.fr.length = n := hrow.1
  have HV := Lib.hid eV
  clear hrow eV
  go_enter Try.func4, Try.ntmps4
  go_upto_region 1 with fail
  rw [HW.out]
  clear hg2 HW
  obtain ⟨g1, hg1⟩ : ∃ g, w.heap.size = g := ⟨_, rfl⟩
  rw [hg1] at HK ⊢
  clear hg1
  go_wp2_with fail
  refine (HA.out w1).mono ?_
  rintro e w2 ⟨rfl, hb⟩
  have HK := Lib.hid (HK.out.on hb)
  clear hb
  go_wp2_with (first | ((with_reducible show wpList _ _ _ ((⟨some 15, Op.load 24 (.tmp 4), _, _, _, _⟩ : Oper) :: _) _ _); refine wpList_load_rowG (by rfl) _ (.tmp 4) rfl g1 rfl 24 C (0, 0) _ HK.out.pl.1 Try.underlying24 rfl (by rw [h11]; exact info11) ?_) | fail)
  refine (few_any HK.out.pl.2).mono ?_
  rintro e w3 ⟨rfl, hb⟩
  have HK := Lib.hid (HK.out.on hb)
  clear hb
  obtain ⟨fw, hfw⟩ : ∃ b, few p = b := ⟨_, rfl⟩
  rw [hfw]
  clear hfw
  cases fw
  case false =>
    go_wp2
    go_ret
    exact ⟨rfl, HK.out.below⟩
  have s3 : w3.cell? ⟨g2, 3, none⟩ = some (.slice ad n c) := by
    have := (HK.out.bs (g2, V, l) (by simp)).1.cell 3
    dsimp only at this
    rw [HV.out] at this
    exact this
  by_cases y : n > 50
  · have y' : ((n : Int) > 50) := by omega
    go_wp2
    go_ret
    exact ⟨rfl, HK.out.below⟩
  have y' : decide ((n : Int) > 50) = false := decide_eq_false (by omega)
  have HL : Hid (l.fr.length ≤ 50) := Lib.hid (by omega)
  clear hl
  go_wp2_with (first | ((with_reducible show wpList _ _ _ ((⟨some 25, Op.load 24 (.tmp 4), _, _, _, _⟩ : Oper) :: _) _ _); refine wpList_load_rowG (by rfl) _ (.tmp 4) rfl g1 rfl 24 C (0, 0) _ HK.out.pl.1 Try.underlying24 rfl (by rw [h11]; exact info11) ?_) | fail)
  refine (check_any HK.out.pl.2).mono ?_
  rintro e w4 ⟨rfl, hb⟩
  have HK := Lib.hid (HK.out.on hb)
  clear hb s3 y y'
  by_cases hok : p.ok
  case neg =>
    rw [Dr.P.chk_no hok]
    clear hok
    go_wp2
    go_ret
    exact ⟨rfl, HK.out.below⟩
  rw [Dr.P.chk_ok hok]
  have HOK := Lib.hid hok
  clear hok
  obtain ⟨ak, hak⟩ : ∃ x, l.asked = x := ⟨_, rfl⟩
  have HAK := Lib.hid hak
  have s2 : w4.cell? ⟨g2, 2, none⟩ = some (.int .i64 ak) := by
    have := (HK.out.bs (g2, V, l) (by simp)).1.cell 2
    dsimp only at this
    rw [HV.out] at this
    exact this.trans (by rw [← hak]; rfl)
  clear hak
  by_cases z1 : now < 0
  · skip
    go_wp2
    go_ret
    exact ⟨rfl, HK.out.below⟩
  by_cases z2 : now > 1152921504606846976
  · skip
    go_wp2
    go_ret
    exact ⟨rfl, HK.out.below⟩
  by_cases z3 : ak < 0
  · skip
    go_wp2
    go_ret
    exact ⟨rfl, HK.out.below⟩
  have z2' : decide (now > 1152921504606846976) = false := decide_eq_false z2
  have hbk := HI.out.2
  go_upto_region 4 with fail
  clear s2
  go_wp2_with (first | ((with_reducible show wpList _ _ _ ((⟨some 43, Op.load 24 (.tmp 4), _, _, _, _⟩ : Oper) :: _) _ _); refine wpList_load_rowG (by rfl) _ (.tmp 4) rfl g1 rfl 24 C (0, 0) _ HK.out.pl.1 Try.underlying24 rfl (by rw [h11]; exact info11) ?_) | ((with_reducible show wpList _ _ _ ((⟨some 44, Op.load 26 (.tmp 5), _, _, _, _⟩ : Oper) :: _) _ _); refine wpList_load_rowG (by rfl) _ (.tmp 5) rfl g2 rfl 26 V (0, 0) _ (HK.out.bs (g2, V, l) (by simp)).1 Try.underlying26 rfl (by rw [(HK.out.bs (g2, V, l) (by simp)).2.size]; exact info_ls) ?_) | fail)
  refine (HG.out.fits HK.out.pl.2 (HK.out.bs (g2, V, l) (by simp)).2 (by have := HL.out; show l.fr.length ≤ 1000; omega) now HI.out.1).mono ?_
  rintro e w5 ⟨rfl, hb⟩
  have HK := Lib.hid (HK.out.on hb)
  clear hb
  obtain ⟨f, hf⟩ : ∃ b, Ln.fits p l now = b := ⟨_, rfl⟩
  rw [hf]
  have HF := Lib.hid hf
  clear hf
  go_wp2_with (first | ((with_reducible show wpList _ _ _ ((⟨some 47, Op.load 24 (.tmp 4), _, _, _, _⟩ : Oper) :: _) _ _); refine wpList_load_rowG (by rfl) _ (.tmp 4) rfl g1 rfl 24 C (0, 0) _ HK.out.pl.1 Try.underlying24 rfl (by rw [h11]; exact info11) ?_) | ((with_reducible show wpList _ _ _ ((⟨some 48, Op.load 26 (.tmp 5), _, _, _, _⟩ : Oper) :: _) _ _); refine wpList_load_rowG (by rfl) _ (.tmp 5) rfl g2 rfl 26 V (0, 0) _ (HK.out.bs (g2, V, l) (by simp)).1 Try.underlying26 rfl (by rw [(HK.out.bs (g2, V, l) (by simp)).2.size]; exact info_ls) ?_) | fail)
  refine (HG.out.late HK.out.pl.2 (HK.out.bs (g2, V, l) (by simp)).2 (by have := HL.out; show l.fr.length ≤ 1000; omega) now HI.out.1).mono ?_
  rintro e w6 ⟨rfl, hb⟩
  have HK := Lib.hid (HK.out.on hb)
  clear hb
  obtain ⟨t, ht⟩ : ∃ b, Ln.late p l now = b := ⟨_, rfl⟩
  rw [ht]
  have HT := Lib.hid ht
  clear ht
  go_wp2_with (first | ((with_reducible show wpList _ _ _ ((⟨some 51, Op.load 24 (.tmp 4), _, _, _, _⟩ : Oper) :: _) _ _); refine wpList_load_rowG (by rfl) _ (.tmp 4) rfl g1 rfl 24 C (0, 0) _ HK.out.pl.1 Try.underlying24 rfl (by rw [h11]; exact info11) ?_) | ((with_reducible show wpList _ _ _ ((⟨some 52, Op.load 26 (.tmp 5), _, _, _, _⟩ : Oper) :: _) _ _); refine wpList_load_rowG (by rfl) _ (.tmp 5) rfl g2 rfl 26 V (0, 0) _ (HK.out.bs (g2, V, l) (by simp)).1 Try.underlying26 rfl (by rw [(HK.out.bs (g2, V, l) (by simp)).2.size]; exact info_ls) ?_) | fail)
  refine (HG.out.held HK.out.pl.2 (HK.out.bs (g2, V, l) (by simp)).2 (by have := HL.out; show l.fr.length ≤ 1000; omega) now HI.out.1).mono ?_
  rintro e w7 ⟨rfl, hb⟩
  have HK := Lib.hid (HK.out.on hb)
  clear hb
  obtain ⟨d, hd⟩ : ∃ b, Ln.held p l now = b := ⟨_, rfl⟩
  rw [hd]
  have HH := Lib.hid hd
  clear hd
  have e1 : IntKind.i64.wrap (now - bk) = now - bk := by rw [IntKind.wrap_i64]; omega
  have e2 : IntKind.i64.wrap bk = bk := by rw [IntKind.wrap_i64]; omega
  cases f with
  | true =>
    have ht : t = false := HT.out.symm.trans (fits_late HOK.out HF.out)
    subst ht
    have hd : d = true := HH.out.symm.trans (late_held HOK.out HT.out)
    subst hd
    have q3 : w7.cell? ⟨g2, 2, none⟩ = some (.int .i64 ak) := by
      have := (HK.out.bs (g2, V, l) (by simp)).1.cell 2
      dsimp only at this
      rw [HV.out] at this
      exact this.trans (by rw [← HAK.out]; rfl)
    by_cases y3 : now - bk < ak
    · skip
      go_wp2
      go_ret
      exact ⟨rfl, HK.out.below⟩
    have y3' : decide (now - bk < ak) = false := decide_eq_false y3
    have hback := held_back (ah := now - bk) HH.out (by rw [HAK.out]; omega) (by omega)
    go_wp2_with (first | ((with_reducible show wpList _ _ _ ((⟨some 84, Op.load 24 (.tmp 4), _, _, _, _⟩ : Oper) :: _) _ _); refine wpList_load_rowG (by rfl) _ (.tmp 4) rfl g1 rfl 24 C (0, 0) _ HK.out.pl.1 Try.underlying24 rfl (by rw [h11]; exact info11) ?_) | ((with_reducible show wpList _ _ _ ((⟨some 85, Op.load 26 (.tmp 5), _, _, _, _⟩ : Oper) :: _) _ _); refine wpList_load_rowG (by rfl) _ (.tmp 5) rfl g2 rfl 26 V (0, 0) _ (HK.out.bs (g2, V, l) (by simp)).1 Try.underlying26 rfl (by rw [(HK.out.bs (g2, V, l) (by simp)).2.size]; exact info_ls) ?_) | fail)
    refine (HG.out.held HK.out.pl.2 (HK.out.bs (g2, V, l) (by simp)).2 (by have := HL.out; show l.fr.length ≤ 1000; omega) (now - bk) (by constructor <;> omega)).mono ?_
    rintro e w8 ⟨rfl, hb⟩
    have HK := Lib.hid (HK.out.on hb)
    clear hb
    rw [hback]
    clear hback
    go_wp2
    go_ret
    exact ⟨rfl, HK.out.below⟩
  | false =>
    cases t with
    | false =>
      have hd : d = true := HH.out.symm.trans (late_held HOK.out HT.out)
      subst hd
      have q3 : w7.cell? ⟨g2, 2, none⟩ = some (.int .i64 ak) := by
        have := (HK.out.bs (g2, V, l) (by simp)).1.cell 2
        dsimp only at this
        rw [HV.out] at this
        exact this.trans (by rw [← HAK.out]; rfl)
      by_cases y3 : now - bk < ak
      · skip
        go_wp2
        go_ret
        exact ⟨rfl, HK.out.below⟩
      have y3' : decide (now - bk < ak) = false := decide_eq_false y3
      have hback := held_back (ah := now - bk) HH.out (by rw [HAK.out]; omega) (by omega)
      go_wp2_with (first | ((with_reducible show wpList _ _ _ ((⟨some 84, Op.load 24 (.tmp 4), _, _, _, _⟩ : Oper) :: _) _ _); refine wpList_load_rowG (by rfl) _ (.tmp 4) rfl g1 rfl 24 C (0, 0) _ HK.out.pl.1 Try.underlying24 rfl (by rw [h11]; exact info11) ?_) | ((with_reducible show wpList _ _ _ ((⟨some 85, Op.load 26 (.tmp 5), _, _, _, _⟩ : Oper) :: _) _ _); refine wpList_load_rowG (by rfl) _ (.tmp 5) rfl g2 rfl 26 V (0, 0) _ (HK.out.bs (g2, V, l) (by simp)).1 Try.underlying26 rfl (by rw [(HK.out.bs (g2, V, l) (by simp)).2.size]; exact info_ls) ?_) | fail)
      refine (HG.out.held HK.out.pl.2 (HK.out.bs (g2, V, l) (by simp)).2 (by have := HL.out; show l.fr.length ≤ 1000; omega) (now - bk) (by constructor <;> omega)).mono ?_
      rintro e w8 ⟨rfl, hb⟩
      have HK := Lib.hid (HK.out.on hb)
      clear hb
      rw [hback]
      clear hback
      go_wp2
      go_ret
      exact ⟨rfl, HK.out.below⟩
    | true =>
      cases d with
      | true =>
        have q3 : w7.cell? ⟨g2, 2, none⟩ = some (.int .i64 ak) := by
          have := (HK.out.bs (g2, V, l) (by simp)).1.cell 2
          dsimp only at this
          rw [HV.out] at this
          exact this.trans (by rw [← HAK.out]; rfl)
        by_cases y3 : now - bk < ak
        · skip
          go_wp2
          go_ret
          exact ⟨rfl, HK.out.below⟩
        have y3' : decide (now - bk < ak) = false := decide_eq_false y3
        have hback := held_back (ah := now - bk) HH.out (by rw [HAK.out]; omega) (by omega)
        go_wp2_with (first | ((with_reducible show wpList _ _ _ ((⟨some 84, Op.load 24 (.tmp 4), _, _, _, _⟩ : Oper) :: _) _ _); refine wpList_load_rowG (by rfl) _ (.tmp 4) rfl g1 rfl 24 C (0, 0) _ HK.out.pl.1 Try.underlying24 rfl (by rw [h11]; exact info11) ?_) | ((with_reducible show wpList _ _ _ ((⟨some 85, Op.load 26 (.tmp 5), _, _, _, _⟩ : Oper) :: _) _ _); refine wpList_load_rowG (by rfl) _ (.tmp 5) rfl g2 rfl 26 V (0, 0) _ (HK.out.bs (g2, V, l) (by simp)).1 Try.underlying26 rfl (by rw [(HK.out.bs (g2, V, l) (by simp)).2.size]; exact info_ls) ?_) | fail)
        refine (HG.out.held HK.out.pl.2 (HK.out.bs (g2, V, l) (by simp)).2 (by have := HL.out; show l.fr.length ≤ 1000; omega) (now - bk) (by constructor <;> omega)).mono ?_
        rintro e w8 ⟨rfl, hb⟩
        have HK := Lib.hid (HK.out.on hb)
        clear hb
        rw [hback]
        clear hback
        go_wp2
        go_ret
        exact ⟨rfl, HK.out.below⟩
      | false =>
        go_wp2
        go_ret
        exact ⟨rfl, HK.out.below⟩
end Go.Proofs.Ytegdopbiiddamaa
