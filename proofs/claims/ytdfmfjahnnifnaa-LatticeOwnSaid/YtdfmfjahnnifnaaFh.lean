/-
  The walk of the document's Manifest.
-/
import Derived.Test.YtdfmfjahnnifnaaFg
namespace Go.Proofs.Ytdfmfjahnnifnaa
set_option maxRecDepth 20000
set_option linter.unusedSimpArgs false
set_option linter.unusedVariables false
open Go.RowKit
theorem mani_at {l : List Ft.Fact} {e : Int} {j : Nat} (hj : j < l.length) (h : ∀ i, i < j → La.whose 1 e (l.getD i Ft.nought) = false) (hw : La.whose 1 e (l.getD j Ft.nought) = true) : La.mani l e = some (l.getD j Ft.nought).man := by
  unfold La.mani
  have : l.find? (La.whose 1 e) = some (l.getD j Ft.nought) := by
    rw [List.find?_eq_some_iff_getElem]
    refine ⟨hw, j, hj, by simp [hj], fun i hi => ?_⟩
    have hil : i < l.length := by omega
    have := h i hi
    simp only [List.getD_eq_getElem?_getD, List.getElem?_eq_getElem hil, Option.getD_some] at this
    simp [this]
  rw [this]
  rfl
theorem mani_none {l : List Ft.Fact} {e : Int} (h : ∀ i, i < l.length → La.whose 1 e (l.getD i Ft.nought) = false) : La.mani l e = none := by
  unfold La.mani
  have : l.find? (La.whose 1 e) = none := by
    rw [List.find?_eq_none]
    intro x hx
    obtain ⟨i, hi, rfl⟩ := List.getElem_of_mem hx
    have := h i hi
    simp only [List.getD_eq_getElem?_getD, List.getElem?_eq_getElem hi, Option.getD_some] at this
    simp [this]
  rw [this]
  rfl
/-- What Manifest answers: a manifest whose digests lie in old blocks, and whether there is one. -/
def Mani (w : World) (R : List Fm) (ep : Int) (e : Ending) (w' : World) : Prop :=
  (∃ Q : Array Value, e = .returned (.tuple #[.agg Q, .bool (La.mani (FS R) ep).isSome]) ∧ Mv w' (fun b => b < w.heap.size) (.agg Q) ((La.mani (FS R) ep).getD Mf.zero)) ∧ Below w.heap.size w w'
set_option maxHeartbeats 2000000 in
theorem rmani_any {w : World} {S D : Nat → Prop} {a : Option Addr} {n c : Nat} {R : List Fm} (h : Fts w S D a n R) (hn : n ≤ 1000000) (ep : Int) :
    Calls Try.prog 18 #[.slice a n c, .int .i64 ep] w (Mani w R ep) := by
  have HLN := Lib.hid h.1
  have hz : Whole (w.alloc (.cells zm 28)) w.heap.size 28 zm := Whole.new w _ _
  have hb : Below w.heap.size w (w.alloc (.cells zm 28)) := below_alloc w _
  have H := Lib.hid (h.old.below hb (fun _ _ h => h) (fun _ _ h => h))
  have HZ := Lib.hid hz
  have HB := Lib.hid hb
  clear h hz hb
  have hall := mcs_one (s := 0) (c := 0) (v := .slice none 0 0) (h := zs 32) rfl
  go_enter Try.func18, Try.ntmps18
  go_wp2
  go_loopw [6] (fun i wr => ∃ j : Nat, j ≤ n ∧ i = .int .i64 (j : Int) ∧ Hid (∀ i, i < j → La.whose 1 ep (R.getD i d0).1 = false) ∧ wr = w.alloc (.cells zm 28)) (fun i _ => n - (intOf i).toNat)
  case atStart => exact ⟨0, Nat.zero_le _, rfl, Lib.hid (fun i hi => absurd hi (Nat.not_lt_zero i)), rfl⟩
  case round =>
    obtain ⟨j, hj, rfl, HN, rfl⟩ := hrel
    generalize hw1 : w.alloc (.cells zm 28) = w1 at *
    by_cases hlt : j < n
    · obtain ⟨b, off, rfl, hbS, _, hrg, hrw⟩ := H.out.at_ hlt
      obtain ⟨x, hx⟩ : ∃ x, R.getD j d0 = x := ⟨_, rfl⟩
      rw [hx] at hrg hrw
      obtain ⟨⟨xk, xe, xn, xm⟩, xM⟩ := x
      have c0 : w1.cell? ⟨b, off + j * 38, none⟩ = some (.int .i64 xk) := range_c0 hrg
      have c1 : w1.cell? ⟨b, off + j * 38 + 1, none⟩ = some (.int .i64 xe) := range_c1 hrg
      have HM := Lib.hid (And.intro (range_man hrg) (And.intro hrw.1 hrw.2.1))
      have HX := Lib.hid hx
      have HNO : Hid (La.whose 1 ep ⟨xk, xe, xn, xm⟩ = false → ∀ i, i < j + 1 → La.whose 1 ep (R.getD i d0).1 = false) := Lib.hid (fun hno i hi => by
        by_cases hij : i = j
        · rw [hij, HX.out]; exact hno
        · exact HN.out i (by omega))
      clear hrg hx hrw
      by_cases z0 : xk = 1
      case neg =>
        have d0 : (xk == 1) = false := by simp [z0]
        have HV := Lib.hid (HNO.out (by unfold La.whose; simp [z0]))
        clear z0 HNO
        go_wp2
        exact ⟨⟨j + 1, by omega, by go_num, HV, trivial⟩, by simp [intOf]; omega⟩
      have q0 : (xk == 1) = true := by simp [z0]
      by_cases z1 : xe = ep
      case neg =>
        have d0 : (xe == ep) = false := by simp [z1]
        have HV := Lib.hid (HNO.out (by unfold La.whose; simp [z1]))
        clear z0 z1 HNO
        go_wp2
        exact ⟨⟨j + 1, by omega, by go_num, HV, trivial⟩, by simp [intOf]; omega⟩
      have q1 : (xe == ep) = true := by simp [z1]
      have HV : Hid (La.mani (FS R) ep = some xm) := Lib.hid (by
        have := mani_at (l := FS R) (e := ep) (j := j) (by rw [FS_len, HLN.out]; exact hlt) (fun i hi => by rw [FS_get]; exact HN.out i hi) (by rw [FS_get, HX.out]; unfold La.whose; simp [z0, z1])
        rw [FS_get, HX.out] at this
        exact this)
      clear z0 z1 HNO
      obtain ⟨P, hP, hPs, hPa⟩ := mv_agg HM.out.2.1
      injection hP with hP
      have hPs' : xM.toArray.size = 35 := by rw [hP]; exact hPs
      have hPa' : xM.toArray.all (·.oneCell') = true := by rw [hP]; exact hPa
      have hiM : (Try.prog.info? 28).map (·.size) = some xM.length := by rw [HM.out.2.2]; exact info35
      have HPS := Lib.hid (And.intro hPs' hPa')
      clear hP hPs hPa hPs' hPa'
      go_wp2_with (first
        | ((with_reducible show wpList _ _ _ ((⟨_, Op.load 28 (.tmp 31), _, _, _, _⟩ : Oper) :: _) _ _); refine wpList_load_midG (by rfl) _ (.tmp 31) rfl b (off + j * 38 + 3) rfl xM _ HM.out.1 Try.underlying28 rfl hiM ?_)
        | ((with_reducible show wpList _ _ _ ((⟨_, Op.store 28 _ _, _, _, _, _⟩ : Oper) :: _) _ _); refine wpList_store_row rfl _ (.tmp 4) (.tmp 32) rfl w.heap.size xM.toArray rfl rfl 28 _ HZ.out (by rw [HPS.out.1]; exact info35) (by rw [HPS.out.1]; rfl) HPS.out.2 ?_)
        | fail)
      refine bodyPost_ret (results_cell_one rfl _ _ _ _ rfl (loadVar35 (HZ.out.row _) HPS.out.1)) rfl ?_
      refine ⟨⟨_, by rw [HV.out]; rfl, ?_⟩, below_row HB.out (Nat.le_refl _) _⟩
      rw [HV.out]
      exact HM.out.2.1.below (below_row (Below.refl _ w1) (Nat.le_refl _) xM.toArray) (fun _ _ h => h)
    · obtain rfl : j = n := by omega
      have HV : Hid (La.mani (FS R) ep = none) := Lib.hid (mani_none fun i hi => by rw [FS_get]; exact HN.out i (by rw [FS_len, HLN.out] at hi; exact hi))
      go_wp2_with (first
        | ((with_reducible show wpList _ _ _ ((⟨_, Op.build 28 _, _, _, _, _⟩ : Oper) :: _) _ _); refine wpList_built rfl _ rfl _ rfl _ built_nil ?_)
        | ((with_reducible show wpList _ _ _ ((⟨_, Op.store 28 _ _, _, _, _, _⟩ : Oper) :: _) _ _); refine wpList_store_row rfl _ (.tmp 4) (.tmp 33) rfl w.heap.size zm rfl rfl 28 _ HZ.out (by rw [zm_size]; exact info35) rfl hall ?_)
        | fail)
      refine bodyPost_ret (results_cell_one rfl _ _ _ _ rfl (loadVar35 (HZ.out.row zm) zm_size)) rfl ?_
      refine ⟨⟨_, by rw [HV.out]; rfl, ?_⟩, below_row HB.out (Nat.le_refl _) _⟩
      rw [HV.out]
      exact zm_mv _ _
end Go.Proofs.Ytdfmfjahnnifnaa
