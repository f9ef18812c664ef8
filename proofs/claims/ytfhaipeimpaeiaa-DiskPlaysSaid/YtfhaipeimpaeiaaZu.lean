/-
  Twenty blocks side by side.
-/
import Derived.Test.YtfhaipeimpaeiaaZs
namespace Go.Proofs.Ytfhaipeimpaeiaa
open Go.RowKit
set_option linter.unusedVariables false
set_option linter.unusedSimpArgs false
def zc (n : Nat) : Array Value := (nums (zeros n)).toArray
theorem built_1280 : Try.prog.built 45 [] = some (zc 1280) := by kernel_rfl
theorem zero_1280 (w : World) : (zeroValue 45).run Try.prog w = .ok (.agg (zc 1280)) w := by kernel_rfl
theorem info_1280 : (Try.prog.info? 45).map (·.size) = some (zc 1280).size := by
  have h : (Try.prog.info? 45).map (·.size) = some 1280 := by kernel_rfl
  rw [h]
  simp [zc, nums_len, zeros_len]
theorem und_1280 : Try.prog.underlying 45 = some (.array 20 32) := by kernel_rfl
theorem fill_splice' {L O : List Int} (hL : L.length = 1280) (hO : O.length = 1280) {k : Nat} (hk : k < 20) : splice (nums (L.take (k * 64) ++ O.drop (k * 64))) (k * 64) (nums (Dm.blk L k)) = nums (L.take ((k + 1) * 64) ++ O.drop ((k + 1) * 64)) := by
  have h1 : (L.take (k * 64)).length = k * 64 := by simp; omega
  have h2 : (Dm.blk L k).length = 64 := Dm.blk_len (n := 20) hL hk
  unfold splice
  rw [← nums_take, nums_len, h2, ← nums_drop, ← nums_append, ← nums_append]
  congr 1
  rw [List.take_append_of_le_length (by omega), List.take_of_length_le (by omega), List.drop_append, h1, List.drop_eq_nil_of_le (by omega), List.nil_append]
  have e1 : (O.drop (k * 64)).drop (k * 64 + 64 - k * 64) = O.drop ((k + 1) * 64) := by
    rw [List.drop_drop]
    congr 1; omega
  rw [e1, ← List.append_assoc]
  congr 1
  have e2 : (k + 1) * 64 = k * 64 + 64 := by omega
  rw [e2, List.take_add]
  congr 1
  unfold Dm.blk
  rw [Nat.mul_comm]
theorem crash_read {A : Dm.A} {n k : Nat} (h : Dm.Ok A n) (hk : k < n) (fs : List Int) : ∃ m, m ≤ 64 ∧ Dm.read (Dm.start (Dm.crash A fs)) k = (Dm.blk (Dm.now A) k).take m ++ (Dm.blk A.last k).drop m := by
  obtain ⟨z1, z2⟩ := Dm.zip_ok h.fok fs
  obtain ⟨h1, h2, h3⟩ := Dm.lay_get (A.fresh.zip fs) A.last h.len z1 z2
  have e : Dm.read (Dm.start (Dm.crash A fs)) k = Dm.blk (Dm.layAll A.last (A.fresh.zip fs)) k := rfl
  rw [e]
  by_cases hm : k ∈ (A.fresh.zip fs).map (·.1.1)
  · obtain ⟨x, hx, rfl⟩ := List.mem_map.1 hm
    refine ⟨Dm.many x.2, Dm.many_le _, ?_⟩
    rw [h3 x hx, (Dm.now_get h).2.2]
    have hmem := Dm.zip_sub _ _ x hx
    obtain ⟨i, hi⟩ := List.getElem?_of_mem hmem
    unfold Dm.read
    rw [Dm.look_of_get h.fok hi]
    rfl
  · exact ⟨0, by omega, by rw [h2 k hm]; rfl⟩
end Go.Proofs.Ytfhaipeimpaeiaa
