/-
  The document's Append: what it refuses.
-/
import Derived.Test.YtfecobkpdmjaeaaVe
import Derived.BigQuiet
namespace Go.Proofs.Ytfecobkpdmjaeaa
open Go.RowKit
set_option linter.unusedVariables false
set_option linter.unusedSimpArgs false
set_option maxRecDepth 20000
section
variable {w : World} {B j r n fr m life used nn c : Nat} {v vL vN vD : Value} {L : List (List Int)} {A : Dm.A} {a : Option Addr}
theorem Rj.below {w' : World} (h : Rj w B j r v fr m life used L) (hb : Below w.heap.size w w') : Rj w' B j r v fr m life used L := ⟨h.cells.below hb h.cells.lt, h.recs.below hb⟩
theorem Rj.mono {B2 : Nat} (h : Rj w B j r v fr m life used L) (hb : B2 ≤ B) : Rj w B2 j r v fr m life used L := ⟨h.cells, h.recs.mono hb⟩
theorem Rj.c0 (h : Rj w B j r v fr m life used L) : w.cell? ⟨j, 0, none⟩ = some (.pointer (some ⟨r, 0, none⟩)) := h.cells.cell 0
theorem Rj.c1 (h : Rj w B j r v fr m life used L) : w.cell? ⟨j, 1, none⟩ = some (.int .i64 (fr : Int)) := h.cells.cell 1
theorem Rj.c2 (h : Rj w B j r v fr m life used L) : w.cell? ⟨j, 2, none⟩ = some (.int .i64 (m : Int)) := h.cells.cell 2
theorem Rj.c3 (h : Rj w B j r v fr m life used L) : w.cell? ⟨j, 3, none⟩ = some (.int .i64 (life : Int)) := h.cells.cell 3
theorem Rj.c4 (h : Rj w B j r v fr m life used L) : w.cell? ⟨j, 4, none⟩ = some (.int .i64 (used : Int)) := h.cells.cell 4
theorem Rj.c5 (h : Rj w B j r v fr m life used L) : w.cell? ⟨j, 5, none⟩ = some v := h.cells.cell 5
theorem rAppend_rec (hn : nn = 0 ∨ 2000 < nn) (hc : nn ≤ c) (hm : nn ≤ maxLen) : Calls Try.prog 16 #[.pointer (some ⟨j, 0, none⟩), .slice a nn c] w fun e w' => e = .returned (.int .i64 71) ∧ w = w' := by
  unfold maxLen at hm
  by_cases h0 : nn = 0
  · subst h0
    go_enter Try.func16, Try.ntmps16
    go_wp2
    go_ret
    exact ⟨rfl, rfl⟩
  · have q1 : ((nn : Int) == 0) = false := by simp; omega
    have q2 : (2000 : Int) < (nn : Int) := by omega
    clear h0 hn
    go_enter Try.func16, Try.ntmps16
    go_wp2
    go_ret
    exact ⟨rfl, rfl⟩
theorem rAppend_full (h : Rj w B j r v fr m life used L) (h0 : 0 < nn) (h1 : nn ≤ 2000) (hu : used ≤ m) (hm : m ≤ 100000) (hf : m - used < (nn + 43) / 44) :
    Calls Try.prog 16 #[.pointer (some ⟨j, 0, none⟩), .slice a nn c] w fun e w' => e = .returned (.int .i64 70) ∧ Below w.heap.size w w' := by
  have c2 := h.c2
  have c4 := h.c4
  have q1 : ((nn : Int) == 0) = false := by simp; omega
  have q2 : ¬ (2000 : Int) < (nn : Int) := by omega
  obtain ⟨M, hM⟩ : ∃ M, (nn + 43) / 44 = M := ⟨_, rfl⟩
  have HM := Lib.hid hM
  rw [hM] at hf
  have q3 : (m : Int) - (used : Int) < (M : Int) := by omega
  have q4 : IntKind.i64.wrap ((m : Int) - (used : Int)) = (m : Int) - (used : Int) := IntWalk.i64_in _ (by omega)
  clear h hM
  go_enter Try.func16, Try.ntmps16
  go_wp2_with fail
  refine (rneed_any (by omega)).mono ?_
  rintro e w1 ⟨rfl, rfl⟩
  rw [HM.out]
  go_wp2_with fail
  go_quiet (fail)
  clear q4
  go_wp2
  go_ret
  exact ⟨rfl, ⟨rfl, rfl, rfl, Nat.le_refl _, fun _ _ => rfl⟩⟩
end
theorem ropen_arg {B r n : Nat} {vL vN vD : Value} {A : Dm.A} {w : World} {z1 z2 : Int} (h : Rk w B r vL vN vD A n) (hz : z1 < 0 ∨ z2 < 0 ∨ (n : Int) < z1 ∨ (n : Int) - z1 < z2) :
    Calls Try.prog 14 #[.pointer (some ⟨r, 0, none⟩), .int .i64 z1, .int .i64 z2] w fun e w' => e = .returned (.tuple #[.pointer none, .int .i64 1]) ∧ w = w' := by
  have hsm := h.ok.small
  have c1 := h.c1
  obtain ⟨ad, cn, hvN, _⟩ := own_formR h.now
  subst hvN
  clear h
  by_cases h1 : z1 < 0
  · clear hz
    go_enter Try.func14, Try.ntmps14
    go_wp2
    go_ret2
    exact ⟨rfl, rfl⟩
  · by_cases h2 : z2 < 0
    · clear hz
      go_enter Try.func14, Try.ntmps14
      go_wp2
      go_ret2
      exact ⟨rfl, rfl⟩
    · by_cases h3 : (n : Int) < z1
      · clear hz
        go_enter Try.func14, Try.ntmps14
        go_wp2
        go_ret2
        exact ⟨rfl, rfl⟩
      · have h4 : (n : Int) - z1 < z2 := by omega
        clear hz
        have q4 : IntKind.i64.wrap ((n : Int) - z1) = (n : Int) - z1 := IntWalk.i64_in _ (by omega)
        go_enter Try.func14, Try.ntmps14
        go_wp2
        go_ret2
        exact ⟨rfl, rfl⟩
theorem ropen_down {B r n fr m : Nat} {vL vN vD : Value} {A : Dm.A} {w : World} (h : Rk w B r vL vN vD A n) (hd : A.down = true) (hm : fr + m ≤ n) :
    Calls Try.prog 14 #[.pointer (some ⟨r, 0, none⟩), .int .i64 (fr : Int), .int .i64 (m : Int)] w fun e w' => e = .returned (.tuple #[.pointer none, .int .i64 60]) ∧ w = w' := by
  have hsm := h.ok.small
  have c1 := h.c1
  have c3 := h.c3
  rw [hd] at c3
  obtain ⟨ad, cn, hvN, _⟩ := own_formR h.now
  subst hvN
  clear h hd
  have q1 : ¬ (fr : Int) < 0 := by omega
  have q2 : ¬ (m : Int) < 0 := by omega
  have q3 : ¬ (n : Int) < (fr : Int) := by omega
  have q4 : ¬ (n : Int) - (fr : Int) < (m : Int) := by omega
  go_enter Try.func14, Try.ntmps14
  go_wp2
  go_ret2
  exact ⟨rfl, rfl⟩
end Go.Proofs.Ytfecobkpdmjaeaa
