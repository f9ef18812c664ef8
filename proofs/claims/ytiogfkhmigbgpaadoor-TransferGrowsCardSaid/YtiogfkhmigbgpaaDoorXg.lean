/-
  The walk of TransferPicks.
-/
import Derived.Test.YtiogfkhmigbgpaaDoorXf
namespace Go.Proofs.YtiogfkhmigbgpaaDoor
open Go.RowKit Go.Great
set_option linter.unusedVariables false
set_option linter.unusedSimpArgs false
set_option maxRecDepth 20000
theorem done_is (l : List Bool) : Tr.done l = (decide (Tr.missing l = 0) && decide (0 < l.length)) := by
  unfold Tr.done
  rw [← Bool.decide_and]
  apply decide_eq_decide.2
  rw [← List.length_pos_iff]
  exact And.comm
set_option maxHeartbeats 8000000 in
theorem picks_walk (hg : Trn) (hw : Awake) {w : World} {S S' : Nat → Prop} {a b : Option Addr} {n c m c' : Nat} {hv : List Bool} {ps : List (List Bool)} (h : BE.Row w S a n hv) (h' : Bns w S' b m ps) (d : Int) (hd0 : 0 ≤ d) (hd : d < 18446744073709551616) (hR : Roots w) :
    Calls Tryd.prog 3 #[.slice a n c, .slice b m c', .int .u64 d] w fun e w' => e = .returned (.bool true) ∧ Below w.heap.size w w' := by
  have HG := Lib.hid hg
  have HA := Lib.hid hw
  have HN := Lib.hid (And.intro h.1 h'.1)
  have HK : Hid (BE.Row w Any a n hv ∧ Bns w Any b m ps ∧ (Roots w ∧ Below w.heap.size w w)) := Lib.hid ⟨h.any, h'.weak (fun _ _ _ => trivial), hR, Below.refl _ _⟩
  have on : ∀ (v v' : World), (BE.Row v Any a n hv ∧ Bns v Any b m ps ∧ (Roots v ∧ Below w.heap.size w v)) → Below v.heap.size v v' → Hid (BE.Row v' Any a n hv ∧ Bns v' Any b m ps ∧ (Roots v' ∧ Below w.heap.size w v')) := fun v v' h hb => Lib.hid ⟨h.1.on hb, h.2.1.on hb, keeps h.2.2 hb⟩
  have ON := Lib.hid on
  clear on hg hw h h' hR
  go_enter Tryd.func3, Tryd.ntmps3
  go_wp2_with fail
  refine (HA.out w HK.out.2.2.1).mono ?_
  rintro e w1 ⟨rfl, hb⟩
  have HK := ON.out _ _ HK.out hb
  clear hb
  by_cases z1 : n > 80
  · have z1' : (n : Int) > 80 := by omega
    go_wp2
    go_ret
    exact ⟨rfl, HK.out.2.2.2⟩
  have z1' : ¬ ((n : Int) > 80) := by omega
  by_cases z2 : m > 12
  · have z2' : (m : Int) > 12 := by omega
    go_wp2
    go_ret
    exact ⟨rfl, HK.out.2.2.2⟩
  have z2' : ¬ ((m : Int) > 12) := by omega
  obtain ⟨r1, r2, r3, hr⟩ : ∃ r1 r2 r3, Tr.pick hv ps d = (r1, r2, r3) := ⟨_, _, _, rfl⟩
  have HR := Lib.hid hr
  clear hr
  go_wp2_with fail
  refine (HG.out.pick HK.out.1 HK.out.2.1 (by omega) (by omega) d hd0 hd).mono ?_
  rintro e w2 ⟨rfl, hb⟩
  rw [HR.out]
  have HK := ON.out _ _ HK.out hb
  clear hb
  go_wp2_with fail
  refine (rpick_any HK.out.1 HK.out.2.1 (by omega) (by omega) d hd0 hd).mono ?_
  rintro e w3 ⟨rfl, rfl⟩
  rw [HR.out]
  go_wp2_with fail
  refine (rmissing_any HK.out.1 (by omega)).mono ?_
  rintro e w4 ⟨rfl, rfl⟩
  obtain ⟨z, hz⟩ : ∃ z, Tr.missing hv = z := ⟨_, rfl⟩
  have HZ := Lib.hid hz
  rw [hz]
  clear hz
  have q1 : (r1 == r1) = true := by simp
  have q2 : (r2 == r2) = true := by simp
  have q3 : (r3 == r3) = true := by simp
  have q4 : ((z : Int) == (z : Int)) = true := by simp
  go_wp2_with fail
  clear q1 q2 q3
  refine (HG.out.missing HK.out.1 (by omega)).mono ?_
  rintro e w5 ⟨rfl, hb⟩
  rw [HZ.out]
  have HK := ON.out _ _ HK.out hb
  clear hb
  go_wp2_with fail
  refine (HG.out.done HK.out.1 (by omega)).mono ?_
  rintro e w6 ⟨rfl, hb⟩
  rw [done_is, HZ.out, HN.out.1]
  have HK := ON.out _ _ HK.out hb
  clear hb q4
  by_cases y1 : z = 0
  · subst y1
    by_cases y2 : 0 < n
    · have y2' : (n : Int) > 0 := by omega
      rw [decide_eq_true y2]
      go_wp2
      go_ret
      exact ⟨rfl, HK.out.2.2.2⟩
    · have y2' : ¬ ((n : Int) > 0) := by omega
      rw [decide_eq_false y2]
      go_wp2
      go_ret
      exact ⟨rfl, HK.out.2.2.2⟩
  · have y1' : ((z : Int) == 0) = false := by simp; omega
    rw [decide_eq_false y1]
    go_wp2
    go_ret
    exact ⟨rfl, HK.out.2.2.2⟩
end Go.Proofs.YtiogfkhmigbgpaaDoor
