/-
  The walks of the document's Has, and of its Same of two lists of facts.
-/
import Derived.Test.YtdfmfjahnnifnaaFc
namespace Go.Proofs.Ytdfmfjahnnifnaa
set_option maxRecDepth 20000
set_option linter.unusedSimpArgs false
set_option linter.unusedVariables false
open Go.RowKit
/-- The facts of a row. -/
def FS (R : List Fm) : List Ft.Fact := R.map (·.1)
theorem FS_len (R : List Fm) : (FS R).length = R.length := by simp [FS]
theorem FS_get (R : List Fm) (j : Nat) : (FS R).getD j Ft.nought = (R.getD j d0).1 := by
  unfold FS
  by_cases h : j < R.length
  · simp [h]
  · simp [h, d0]
theorem FS_append (R Q : List Fm) : FS (R ++ Q) = FS R ++ FS Q := by simp [FS]
theorem has_idx {R : List Fm} {k e n : Int} : La.has (FS R) k e n ↔ ∃ j, j < R.length ∧ La.key (R.getD j d0).1 k e n := by
  unfold La.has FS
  constructor
  · rintro ⟨f, hf, hk⟩
    obtain ⟨x, hx, rfl⟩ := List.mem_map.1 hf
    obtain ⟨j, hj, rfl⟩ := List.getElem_of_mem hx
    exact ⟨j, hj, by simpa [hj] using hk⟩
  · rintro ⟨j, hj, hk⟩
    refine ⟨_, List.mem_map.2 ⟨R[j], List.getElem_mem hj, rfl⟩, ?_⟩
    simpa [hj] using hk
set_option maxHeartbeats 2000000 in
theorem rhas_any {w : World} {S D : Nat → Prop} {a : Option Addr} {n c : Nat} {R : List Fm} (h : Fts w S D a n R) (hn : n ≤ 1000000) (k e nd : Int) :
    Calls Try.prog 30 #[.slice a n c, .int .i64 k, .int .i64 e, .int .i64 nd] w fun r w' => r = .returned (.bool (decide (La.has (FS R) k e nd))) ∧ w = w' := by
  have H := Lib.hid h
  have HLN := Lib.hid h.1
  clear h
  go_enter Try.func30, Try.ntmps30
  go_wp2
  go_loopw [9] (fun i wr => ∃ j : Nat, j ≤ n ∧ i = .int .i64 (j : Int) ∧ Hid (∀ i, i < j → ¬ La.key (R.getD i d0).1 k e nd) ∧ wr = w) (fun i _ => n - (intOf i).toNat)
  case atStart => exact ⟨0, Nat.zero_le _, rfl, Lib.hid (fun i hi => absurd hi (Nat.not_lt_zero i)), rfl⟩
  case round =>
    obtain ⟨j, hj, rfl, HN, rfl⟩ := hrel
    by_cases hlt : j < n
    · obtain ⟨b, off, rfl, _, _, hrg, _⟩ := H.out.at_ hlt
      obtain ⟨x, hx⟩ : ∃ x, R.getD j d0 = x := ⟨_, rfl⟩
      rw [hx] at hrg
      obtain ⟨⟨xk, xe, xn, xm⟩, xM⟩ := x
      have c0 : wr.cell? ⟨b, off + j * 38, none⟩ = some (.int .i64 xk) := range_c0 hrg
      have c1 : wr.cell? ⟨b, off + j * 38 + 1, none⟩ = some (.int .i64 xe) := range_c1 hrg
      have c2 : wr.cell? ⟨b, off + j * 38 + 2, none⟩ = some (.int .i64 xn) := range_c2 hrg
      have HX := Lib.hid hx
      clear hx hrg
      have HNO : Hid (¬ La.key ⟨xk, xe, xn, xm⟩ k e nd → ∀ i, i < j + 1 → ¬ La.key (R.getD i d0).1 k e nd) := Lib.hid (fun hno i hi => by
        by_cases hij : i = j
        · rw [hij, HX.out]; exact hno
        · exact HN.out i (by omega))
      by_cases z0 : xk = k
      case neg =>
        have d0 : (xk == k) = false := by simp [z0]
        have HV := Lib.hid (HNO.out (fun h => z0 h.1))
        clear z0 HNO
        go_wp2
        exact ⟨⟨j + 1, by omega, by go_num, HV, by first | rfl | trivial⟩, by simp [intOf]; omega⟩
      have q0 : (xk == k) = true := by simp [z0]
      by_cases z1 : xe = e
      case neg =>
        have d0 : (xe == e) = false := by simp [z1]
        have HV := Lib.hid (HNO.out (fun h => z1 h.2.1))
        clear z0 z1 HNO
        go_wp2
        exact ⟨⟨j + 1, by omega, by go_num, HV, by first | rfl | trivial⟩, by simp [intOf]; omega⟩
      have q1 : (xe == e) = true := by simp [z1]
      by_cases z2 : xn = nd
      case neg =>
        have d0 : (xn == nd) = false := by simp [z2]
        have HV := Lib.hid (HNO.out (fun h => z2 h.2.2))
        clear z0 z1 z2 HNO
        go_wp2
        exact ⟨⟨j + 1, by omega, by go_num, HV, by first | rfl | trivial⟩, by simp [intOf]; omega⟩
      have q2 : (xn == nd) = true := by simp [z2]
      have HY := Lib.hid (show decide (La.has (FS R) k e nd) = true from decide_eq_true (has_idx.2 ⟨j, by rw [HLN.out]; exact hlt, by rw [HX.out]; exact ⟨z0, z1, z2⟩⟩))
      clear z0 z1 z2 HNO
      go_wp2
      go_ret
      exact ⟨ret_bool HY.out.symm, rfl⟩
    · obtain rfl : j = n := by omega
      have HY := Lib.hid (show decide (La.has (FS R) k e nd) = false from decide_eq_false (fun h => by
        obtain ⟨i, hi, hk⟩ := has_idx.1 h
        exact HN.out i (by rw [← HLN.out]; exact hi) hk))
      go_wp2
      go_ret
      exact ⟨ret_bool HY.out.symm, rfl⟩
end Go.Proofs.Ytdfmfjahnnifnaa
