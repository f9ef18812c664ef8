/-
  Twenty blocks side by side.
-/
import Derived.Test.YtfecobkpdmjaeaaZs
namespace Go.Proofs.Ytfecobkpdmjaeaa
open Go.RowKit
set_option linter.unusedVariables false
set_option maxRecDepth 20000
set_option linter.unusedSimpArgs false
theorem crash_read {A : Dm.A} {n k : Nat} (h : Dm.Ok A n) (hk : k < n) (fs : List Int) : ∃ m, m ≤ 64 ∧ Dm.read (Dm.start (Dm.crash A fs)) k = (Dm.blk (Dm.now A) k).take m ++ (Dm.blk A.last k).drop m := by
  obtain ⟨z1, z2⟩ := Dm.zip_ok h.fok fs
  obtain ⟨h1, h2, h3⟩ := Dm.lay_get (A.fresh.zip fs) A.last h.len z1 z2
  have e : Dm.read (Dm.start (Dm.crash A fs)) k = Dm.blk (Dm.layAll A.last (A.fresh.zip fs)) k := rfl
  rw [e]
  by_cases hm : k ∈ (A.fresh.zip fs).map (·.1.1)
  · obtain ⟨x, hx, rfl⟩ := List.mem_map.1 hm
    refine ⟨Dm.many x.2, Dm.many_le _, ?_⟩
    rw [h3 x hx, (Dm.now_get h).2.2]
    have hmem := Dm.zip_sub _ _ x hx
    obtain ⟨i, hi⟩ := List.getElem?_of_mem hmem
    unfold Dm.read
    rw [Dm.look_of_get h.fok hi]
    rfl
  · exact ⟨0, by omega, by rw [h2 k hm]; rfl⟩
end Go.Proofs.Ytfecobkpdmjaeaa
