/-
  The package's None, Missing, Done, isThere; its copy of a row of bools.
-/
import Derived.Test.YtiogfkhmigbgpaaDoorXf
import Derived.Laws.MakeOwn
import Derived.Deep.MidRow
namespace Go.Proofs.YtiogfkhmigbgpaaDoor
open Go.RowKit Go.Great
set_option linter.unusedVariables false
set_option linter.unusedSimpArgs false
set_option maxRecDepth 20000
/-- What make lays is a row of bools, none of which is true. -/
theorem be_zeros (n : Nat) : madeCells (Value.bool false).cells n = (Array.replicate n (Value.bool false)) := by
  apply Array.ext
  · simp [size_madeCells]
  · intro i h1 h2
    have e3 : (madeCells (Value.bool false).cells n)[i] = (Value.bool false).cells[i % (Value.bool false).cells.size]! := by simp [madeCells]
    rw [e3]
    simp [Value.cells, Nat.mod_one]
theorem run_makeB (n : Nat) (hn : n ≤ 1000000) (w : World) : (Instr.makeSlice 22 (.int .i64 (n : Int)) (.int .i64 (n : Int))).run Tryd.prog w = .ok (.slice (some ⟨w.heap.size, 0, none⟩) n n) (w.alloc (.cells (Array.replicate n (Value.bool false)) 4)) := by
  obtain ⟨i, hi, hz, hsize, hby⟩ := info_parts BE.info
  have h := run_make (P := Tryd.prog) w 22 4 i BE.zero BE.und hi hz .i64 .i64 n n (by omega) (Int.le_refl _) (by
    rw [hby, show BE.bytes = 1 from rfl]
    omega) (by omega)
  rw [hsize, Int.toNat_natCast, show BE.K = 1 from rfl, Nat.mul_one, show BE.zero = .bool false from rfl, be_zeros] at h
  exact h
theorem own_zeros (w : World) {n : Nat} (hn : n ≤ 1000000) : BE.Own (w.alloc (.cells (Array.replicate n (Value.bool false)) 4)) w.heap.size (some ⟨w.heap.size, 0, none⟩) n n (List.replicate n false) := by
  have hf : BE.flat (List.replicate n false) = (List.replicate n false).map Value.bool := be_flat _
  refine ⟨⟨by rw [hf]; simp [show BE.K = 1 from rfl], Or.inr ⟨w.heap.size, n, (Array.replicate n (Value.bool false)), rfl, Nat.le_refl _, Whole.new w _ _, Nat.le_refl _, by unfold maxLen; omega, by rw [show BE.K = 1 from rfl]; simp, ?_⟩⟩, (fun x _ => trivial), by simp⟩
  rw [hf]
  rw [Array.toList_replicate, show BE.K = 1 from rfl, Nat.mul_one]
  rw [List.take_of_length_le (by simp), List.map_replicate]
theorem none_any {w : World} {S : Nat → Prop} {P : Array Value} {m : Mf.Man} (h : Mv w S (.agg P) m) (hm : m.ds.length ≤ 1000) : Calls Tryd.prog 19 #[.agg P] w (BoQ w (List.replicate m.ds.length false)) := by
  have hP := mv_size h
  obtain ⟨ad, cd, hP2⟩ := mv_ds h
  have bb := below_alloc w (.cells P 34)
  have HM := Lib.hid (mb_new h)
  have HB := Lib.hid bb
  obtain ⟨k, hk⟩ : ∃ k, m.ds.length = k := ⟨_, rfl⟩
  rw [hk] at hP2 hm ⊢
  obtain ⟨w1, hw1⟩ : ∃ w1, w.alloc (.cells P 34) = w1 := ⟨_, rfl⟩
  rw [hw1] at HM HB
  have HW := Lib.hid hw1
  clear h bb hw1 hk
  go_enter Tryd.func19, Tryd.ntmps19
  go_upto_region 1 with fail
  rw [HW.out]
  obtain ⟨g, hg⟩ : ∃ g, w.heap.size = g := ⟨_, rfl⟩
  rw [hg] at HM ⊢
  have c2 : w1.cell? ⟨g, 2, none⟩ = some (.slice ad k cd) := by rw [HM.out.1.cell]; exact hP2
  have hmk := run_makeB k (by omega) w1
  go_wp2_with fail
  go_ret
  exact ⟨_, k, k, rfl, (own_zeros w1 (by omega)).mono (HB.out.size), HB.out.trans ((below_alloc w1 _).mono HB.out.size)⟩
set_option maxHeartbeats 4000000 in
theorem missing_any {w : World} {S : Nat → Prop} {a : Option Addr} {n c : Nat} {l : List Bool} (h : BE.Row w S a n l) (hn : n ≤ 1000) :
    Calls Tryd.prog 12 #[.slice a n c] w fun e w' => e = .returned (.int .i64 (Tr.missing l : Int)) ∧ w = w' := by
  have H := Lib.hid h
  have HN := Lib.hid h.1
  clear h
  go_enter Tryd.func12, Tryd.ntmps12
  go_wp2
  go_loop [3, 5, 8] (fun v _ i => ∃ j z : Nat, j ≤ n ∧ i = .int .i64 (j : Int) ∧ v = .int .i64 (z : Int) ∧ z ≤ j ∧ Hid (Tr.missing (l.take j) = z)) (fun _ _ v => n - (intOf v).toNat)
  case atStart => exact ⟨0, 0, Nat.zero_le _, rfl, rfl, Nat.le_refl _, Lib.hid rfl⟩
  case round =>
    obtain ⟨j, z, hj, rfl, rfl, hz, HJ⟩ := hrel
    by_cases hlt : j < n
    case neg =>
      have q : ¬ ((j : Int) < (n : Int)) := by omega
      have HE : Hid (Tr.missing l = z) := Lib.hid (by rw [← HJ.out, List.take_of_length_le (by rw [HN.out]; omega)])
      go_wp2
      go_ret
      rw [HE.out]
      exact ⟨rfl, rfl⟩
    have q : (j : Int) < (n : Int) := by omega
    obtain ⟨b, off, rfl, _, _, hc⟩ := be_cells H.out (by omega)
    have cj := hc j hlt
    have hs := Tr.missing_next l j (by rw [HN.out]; exact hlt)
    obtain ⟨x, hx⟩ : ∃ x, l.getD j false = x := ⟨_, rfl⟩
    rw [hx] at cj hs
    rw [HJ.out] at hs
    have HS := Lib.hid hs
    clear hc hs hx
    cases x
    · go_wp2
      exact ⟨⟨j + 1, z + 1, by omega, by go_num, by go_num, by omega, Lib.hid (by rw [HS.out]; rfl)⟩, by simp [intOf]; omega⟩
    · go_wp2
      exact ⟨⟨j + 1, z, by omega, by go_num, rfl, by omega, Lib.hid (by rw [HS.out]; rfl)⟩, by simp [intOf]; omega⟩
theorem done_any {w : World} {S : Nat → Prop} {a : Option Addr} {n c : Nat} {l : List Bool} (h : BE.Row w S a n l) (hn : n ≤ 1000) :
    Calls Tryd.prog 13 #[.slice a n c] w fun e w' => e = .returned (.bool (Tr.done l)) ∧ w = w' := by
  obtain ⟨r, hr⟩ : ∃ r, Tr.done l = r := ⟨_, rfl⟩
  rw [hr]
  have hl := h.1
  have H := Lib.hid h
  clear h
  by_cases h0 : n = 0
  · subst h0
    have HE : Hid (r = false) := Lib.hid (by rw [← hr]; unfold Tr.done; exact decide_eq_false (fun h => h.1 (List.eq_nil_of_length_eq_zero hl)))
    clear hr hl H
    go_enter Tryd.func13, Tryd.ntmps13
    go_wp2
    go_ret
    exact ⟨ret_bool HE.out.symm, rfl⟩
  · have q : (0 : Int) < (n : Int) := by omega
    obtain ⟨z, hz⟩ : ∃ z, Tr.missing l = z := ⟨_, rfl⟩
    have hle : z ≤ n := by rw [← hz, ← hl]; exact Tr.missing_le l
    have HE : Hid (r = ((z : Int) == 0)) := Lib.hid (by
      rw [← hr]
      unfold Tr.done
      rw [hz]
      have : l ≠ [] := by intro h; rw [h] at hl; exact h0 hl.symm
      by_cases h : z = 0 <;> simp [h, this])
    have HZ := Lib.hid hz
    clear hr hl hz
    go_enter Tryd.func13, Tryd.ntmps13
    go_wp2_with fail
    refine (missing_any H.out hn).mono ?_
    rintro e w' ⟨rfl, rfl⟩
    rw [HZ.out]
    go_wp2
    go_ret
    exact ⟨ret_bool HE.out.symm, rfl⟩
theorem isthere_any {w : World} {S : Nat → Prop} {a : Option Addr} {n c : Nat} {l : List Bool} (h : BE.Row w S a n l) (k : Nat) :
    Calls Tryd.prog 26 #[.slice a n c, .int .i64 (k : Int)] w fun e w' => e = .returned (.bool (Tr.has l k)) ∧ w = w' := by
  obtain ⟨r, hr⟩ : ∃ r, Tr.has l k = r := ⟨_, rfl⟩
  rw [hr]
  by_cases hk : k < n
  · obtain ⟨b, off, rfl, _, _, hc⟩ := be_cells h (by omega)
    have ck := hc k hk
    have e : l.getD k false = r := hr
    rw [e] at ck
    have q : (k : Int) < (n : Int) := by omega
    clear hc h e hr hk
    cases r
    · go_enter Tryd.func26, Tryd.ntmps26
      go_wp2
      go_ret
      exact ⟨rfl, rfl⟩
    · go_enter Tryd.func26, Tryd.ntmps26
      go_wp2
      go_ret
      exact ⟨rfl, rfl⟩
  · have HE : Hid (r = false) := Lib.hid (by rw [← hr]; unfold Tr.has; simp [show l.length ≤ k by rw [h.1]; omega])
    have q : ¬ ((k : Int) < (n : Int)) := by omega
    clear h hr
    go_enter Tryd.func26, Tryd.ntmps26
    go_wp2
    go_ret
    exact ⟨ret_bool HE.out.symm, rfl⟩
theorem nilB_yes (n c : Nat) (w : World) : (binOp .eql 22 (.slice none n c) (.slice none 0 0)).run Tryd.prog w = .ok (.bool true) w := by kernel_rfl
theorem nilB_no (ad : Addr) (n c : Nat) (w : World) : (binOp .eql 22 (.slice (some ad) n c) (.slice none 0 0)).run Tryd.prog w = .ok (.bool false) w := by kernel_rfl
set_option maxHeartbeats 2000000 in
theorem cloneB_any {w : World} {S : Nat → Prop} {a : Option Addr} {n c : Nat} {l : List Bool} (h : BE.Row w S a n l) (hn : n ≤ 1000) :
    Calls Tryd.prog 29 #[.slice a n c] w fun e w' => ∃ a' c', e = .returned (.slice a' n c') ∧ BE.Own w' w.heap.size a' n c' l ∧ Below w.heap.size w w' := by
  have hl := h.1
  cases a with
  | none =>
    have h0 : n = 0 := by
      rcases h.2.2 with h | ⟨b, off, h, _⟩
      · rw [h] at hl; exact hl.symm
      · cases h
    subst h0
    obtain rfl := List.eq_nil_of_length_eq_zero hl
    clear h
    have hq := nilB_yes 0 c
    go_enter Tryd.func29, Tryd.ntmps29
    go_wp2
    go_ret
    exact ⟨none, 0, rfl, Elem.Own.nil _ _, Below.refl _ _⟩
  | some ad =>
    have HR := Lib.hid h.any
    have HN := Lib.hid hl
    clear h
    have hq := nilB_no ad n c
    go_enter Tryd.func29, Tryd.ntmps29
    go_wp2_with (first
      | (at_builtin; refine BE.wpList_append _ (by rfl) (.tmp 5) (.tmp 6) rfl w.heap.size (.slice (some ⟨w.heap.size, 0, none⟩) 0 0) 0 [] rfl (BE.empty_own w) Any (some ad) n c l rfl (HR.out.on (below_alloc w (.cells #[] 4))) (by omega) (by omega) (by simp) ?_)
      | ((with_reducible show wpList _ _ _ ((⟨_, Op.buildSlice _ 0 _, _, _, _, _⟩ : Oper) :: _) _ _); refine BE.wpList_build0 (by rfl) rfl ?_)
      | fail)
    intro v5 w5 hown hg5 _
    obtain ⟨a5, c5, rfl, h5, hb5⟩ := BE.copied HN.out (fun _ _ => trivial) hown hg5
    have HX := Lib.hid (And.intro h5 hb5)
    clear hown hg5 h5 hb5
    go_wp2
    go_ret
    exact ⟨a5, c5, rfl, HX.out.1, HX.out.2⟩
end Go.Proofs.YtiogfkhmigbgpaaDoor
