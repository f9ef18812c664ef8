/-
  The document's within, time, and stages.
-/
import Derived.Test.YtegdopbiiddamaaEg
namespace Go.Proofs.Ytegdopbiiddamaa
set_option linter.unusedVariables false
set_option linter.unusedSimpArgs false
set_option maxRecDepth 20000
open Go.RowKit
theorem rwithin_any (n : Int) (w : World) : Calls Try.prog 52 #[.int .i64 n] w fun e w' => e = .returned (.bool (decide (Dr.tm n))) ∧ w = w' := by
  obtain ⟨z, hz⟩ : ∃ z, decide (Dr.tm n) = z := ⟨_, rfl⟩
  rw [hz]
  by_cases h1 : 1 ≤ n
  · have d1 : decide (1 ≤ n) = true := decide_eq_true h1
    have HZ : Hid (decide (n ≤ 1073741824) = z) := Lib.hid (decG (by unfold Dr.tm; exact ⟨fun h => ⟨h1, h⟩, fun h => h.2⟩) hz)
    clear hz
    go_enter Try.func52, Try.ntmps52
    go_wp2
    go_ret
    exact ⟨ret_bool HZ.out, rfl⟩
  · have d1 : decide (1 ≤ n) = false := decide_eq_false h1
    have HZ : Hid (false = z) := Lib.hid ((decide_eq_false (by unfold Dr.tm; exact fun h => h1 h.1)).symm.trans hz)
    clear hz
    go_enter Try.func52, Try.ntmps52
    go_wp2
    go_ret
    exact ⟨ret_bool HZ.out, rfl⟩
theorem rtime_any (a b : Int) (w : World) : Calls Try.prog 55 #[.int .i64 a, .int .i64 b] w fun e w' => e = .returned (.bool (decide (Dr.tw a b))) ∧ w = w' := by
  obtain ⟨z, hz⟩ : ∃ z, decide (Dr.tw a b) = z := ⟨_, rfl⟩
  rw [hz]
  by_cases h1 : 0 ≤ a
  · have d1 : decide (0 ≤ a) = true := decide_eq_true h1
    by_cases h2 : b ≤ 4611686018427387904
    · have d2 : decide (b ≤ 4611686018427387904) = true := decide_eq_true h2
      have HZ : Hid (decide (a ≤ b) = z) := Lib.hid (decG (by unfold Dr.tw; exact ⟨fun h => ⟨h1, h, h2⟩, fun h => h.2.1⟩) hz)
      clear hz
      go_enter Try.func55, Try.ntmps55
      go_wp2
      go_ret
      exact ⟨ret_bool HZ.out, rfl⟩
    · have d2 : decide (b ≤ 4611686018427387904) = false := decide_eq_false h2
      have HZ : Hid (false = z) := Lib.hid ((decide_eq_false (by unfold Dr.tw; exact fun h => h2 h.2.2)).symm.trans hz)
      clear hz
      go_enter Try.func55, Try.ntmps55
      go_wp2
      go_ret
      exact ⟨ret_bool HZ.out, rfl⟩
  · have d1 : decide (0 ≤ a) = false := decide_eq_false h1
    have HZ : Hid (false = z) := Lib.hid ((decide_eq_false (by unfold Dr.tw; exact fun h => h1 h.1)).symm.trans hz)
    clear hz
    go_enter Try.func55, Try.ntmps55
    go_wp2
    go_ret
    exact ⟨ret_bool HZ.out, rfl⟩
/-- The greatest of nought and the first k. -/
def mz (l : List Int) : Nat → Int
  | 0 => 0
  | k + 1 => max (mz l k) (l.getD k 0)
theorem mz_mx (l : List Int) (k : Nat) (h : ∀ j, j < k + 1 → 0 ≤ l.getD j 0) : mz l (k + 1) = Dr.mx l k := by
  induction k with
  | zero => have := h 0 (by omega); show max 0 (l.getD 0 0) = l.getD 0 0; omega
  | succ k ih =>
    show max (mz l (k + 1)) _ = max (Dr.mx l k) _
    rw [ih fun j hj => h j (by omega)]
theorem mz_lo (l : List Int) (k : Nat) : 0 ≤ mz l k := by
  induction k with
  | zero => exact Int.le_refl _
  | succ k ih => unfold mz; omega
theorem mz_hi (l : List Int) (k : Nat) (h : ∀ j, j < k → l.getD j 0 < 4) : mz l k < 4 := by
  induction k with
  | zero => show (0 : Int) < 4; decide
  | succ k ih => unfold mz; have := ih fun j hj => h j (by omega); have := h k (by omega); omega
set_option maxHeartbeats 4000000 in
theorem rstages_any {w : World} {S : Nat → Prop} {C : Array Value} {p : Dr.P} (h : Cc w S C p) (h0 : p.g0) :
    Calls Try.prog 53 #[.agg C] w fun e w' => e = .returned (.bool (decide (p.g6 ∧ p.g7))) ∧ Below w.heap.size w w' := by
  obtain ⟨z, hz⟩ : ∃ z, decide (p.g6 ∧ p.g7) = z := ⟨_, rfl⟩
  rw [hz]
  obtain ⟨a, n, c, a', n', c', q0, q1, q2, q3, q4, q5, q6, q7, q8, q9, q10, hnc, hnc', hm', hs0, hd0, hp⟩ := h.get
  have hl := hs0.1
  have hl' := hd0.1
  clear q1 q2 q3 q4 q5 q6 q9 q10 hp
  have hs := hs0.old.keep (w' := w.alloc (.cells C 24)) (by simp) fun b hb _ => Below.heap_alloc w _ b hb
  have hd := hd0.old.keep (w' := w.alloc (.cells C 24)) (by simp) fun b hb _ => Below.heap_alloc w _ b hb
  clear hs0 hd0
  have h11 := h.size
  have hb1 := below_alloc w (.cells C 24)
  have hx1 := Box.new h
  obtain ⟨w1, h1⟩ : ∃ w1, w.alloc (.cells C 24) = w1 := ⟨_, rfl⟩
  rw [h1] at hb1 hx1 hs hd
  have H1 := Lib.hid (And.intro h1 hb1)
  have k0 : w1.cell? ⟨w.heap.size, 0, none⟩ = some (.int .i64 p.nodes) := (hx1.1.cell 0).trans q0
  have k7 : w1.cell? ⟨w.heap.size, 7, none⟩ = some (.slice a n c) := (hx1.1.cell 7).trans q7
  have k8 : w1.cell? ⟨w.heap.size, 8, none⟩ = some (.slice a' n' c') := (hx1.1.cell 8).trans q8
  clear h h1 hb1 hx1 q0 q7 q8
  have hgn := h0.1
  have hgx := h0.2
  by_cases hn : (n : Int) = p.nodes
  case neg =>
    have d1 : ((n : Int) == p.nodes) = false := by simp [hn]
    have HZ : Hid (false = z) := Lib.hid ((decide_eq_false (by unfold Dr.P.g6; rw [hl]; exact fun h => hn h.1.1)).symm.trans hz)
    clear hz hs hd hn hl hl'
    go_enter Try.func53, Try.ntmps53
    go_upto_region 1 with fail
    rw [H1.out.1]
    go_wp2
    go_ret
    exact ⟨ret_bool HZ.out, H1.out.2⟩
  have d1 : ((n : Int) == p.nodes) = true := by simp [hn]
  have hn0 : 0 < n := by omega
  have hN : n ≤ 9 := by omega
  obtain ⟨b, off, rfl, _, _, hc⟩ := hs.cells hn0
  have HC := Lib.hid hc
  have HD := Lib.hid hd
  have HN := Lib.hid (And.intro hn (And.intro hl (And.intro hl' hz)))
  have HG := Lib.hid h0
  clear hs hd hn hc hl hl' hz h0
  go_enter Try.func53, Try.ntmps53
  go_upto_region 1 with fail
  rw [H1.out.1]
  go_wp2
  go_loopw [2, 3, 4] (fun f m i wr => ∃ (k : Nat) (M : Int), f = .bool false ∧ m = .int .i64 M ∧ i = .int .i64 (k : Int) ∧ k ≤ n ∧ wr = w1 ∧ Hid (M = mz p.stages k ∧ ∀ j, j < k → 0 ≤ p.stages.getD j 0 ∧ p.stages.getD j 0 < 4)) (fun _ _ i _ => n - (intOf i).toNat)
  case atStart => exact ⟨0, 0, rfl, rfl, rfl, by omega, rfl, Lib.hid ⟨rfl, fun j hj => by omega⟩⟩
  case round =>
    obtain ⟨k, M, rfl, rfl, rfl, hk, rfl, HM⟩ := hrel
    by_cases hlt : k < n
    · have d2 : decide ((k : Int) < (n : Int)) = true := decide_eq_true (by omega)
      obtain ⟨x, hx⟩ : ∃ x, p.stages.getD k 0 = x := ⟨_, rfl⟩
      have kc : wr.cell? ⟨b, off + k, none⟩ = some (.int .i64 x) := hx ▸ HC.out k hlt
      have HX := Lib.hid hx
      clear hx
      by_cases hx0 : x < 0
      · have d3 : decide (x < 0) = true := decide_eq_true hx0
        have HZ : Hid (false = z) := Lib.hid ((decide_eq_false (by intro h; have := (h.1.2 k (by rw [HN.out.2.1]; exact hlt)).1; rw [HX.out] at this; omega)).symm.trans HN.out.2.2.2)
        go_wp2
        go_ret
        exact ⟨ret_bool HZ.out, H1.out.2⟩
      have d3 : decide (x < 0) = false := decide_eq_false hx0
      by_cases hx3 : 3 < x
      · have d4 : decide (3 < x) = true := decide_eq_true hx3
        have HZ : Hid (false = z) := Lib.hid ((decide_eq_false (by intro h; have := (h.1.2 k (by rw [HN.out.2.1]; exact hlt)).2; rw [HX.out] at this; omega)).symm.trans HN.out.2.2.2)
        go_wp2
        go_ret
        exact ⟨ret_bool HZ.out, H1.out.2⟩
      have d4 : decide (3 < x) = false := decide_eq_false hx3
      have HM' : Hid ((if M < x then x else M) = mz p.stages (k + 1) ∧ ∀ j, j < k + 1 → 0 ≤ p.stages.getD j 0 ∧ p.stages.getD j 0 < 4) := Lib.hid ⟨by
        show _ = max (mz p.stages k) (p.stages.getD k 0)
        rw [← HM.out.1, HX.out]
        split <;> omega, fun j hj => by
        by_cases e : j = k
        · subst e; rw [HX.out]; omega
        · exact HM.out.2 j (by omega)⟩
      go_wp2
      exact ⟨⟨k + 1, _, rfl, rfl, rfl, by omega, trivial, HM'⟩, by simp [intOf]; omega⟩
    · have d2 : decide ((k : Int) < (n : Int)) = false := decide_eq_false (by omega)
      obtain rfl : k = n := by omega
      have hM0 : 0 ≤ M := by rw [HM.out.1]; exact mz_lo _ _
      have hM4 : M < 4 := by rw [HM.out.1]; exact mz_hi _ _ fun j hj => (HM.out.2 j hj).2
      have HT : Hid (p.top = M) := Lib.hid (by
        unfold Dr.P.top
        rw [HN.out.2.1, HM.out.1]
        obtain ⟨i, rfl⟩ : ∃ i, k = i + 1 := ⟨k - 1, by omega⟩
        exact (mz_mx _ _ fun j hj => (HM.out.2 j hj).1).symm)
      have H6 : Hid p.g6 := Lib.hid ⟨by rw [HN.out.2.1]; exact HN.out.1, by rw [HN.out.2.1]; exact HM.out.2⟩
      by_cases hne : (n' : Int) = M + 1
      case neg =>
        have d3 : ((n' : Int) == M + 1) = false := by simp [hne]
        have HZ : Hid (false = z) := Lib.hid ((decide_eq_false (by unfold Dr.P.g7; rw [HN.out.2.2.1, HT.out]; exact fun h => hne h.2.1)).symm.trans HN.out.2.2.2)
        clear hne
        go_wp2
        go_ret
        exact ⟨ret_bool HZ.out, H1.out.2⟩
      have d3 : ((n' : Int) == M + 1) = true := by simp [hne]
      obtain ⟨b', off', rfl, _, _, hc'⟩ := HD.out.cells (by omega)
      have HE : Hid ((∀ j, j < n' → 0 ≤ p.needs.getD j 0 ∧ p.needs.getD j 0 ≤ Dr.cn p.stages (j : Int) k) ↔ p.g6 ∧ p.g7) := Lib.hid (by
        unfold Dr.P.g7 Dr.P.met
        rw [HN.out.2.2.1, HT.out, HN.out.2.1]
        exact ⟨fun h => ⟨H6.out, hne, h⟩, fun h => h.2.2⟩)
      have HC' := Lib.hid hc'
      have b1 : (n' : Int) ≤ M + 1 := by omega
      have b2 : M + 1 ≤ (n' : Int) := by omega
      clear hne hc' hlt d2
      go_wp2
      go_loopw [2, 5] (fun f s w' => ∃ j : Nat, f = .bool false ∧ s = .int .i64 (j : Int) ∧ j ≤ n' ∧ w' = wr ∧ Hid (∀ i, i < j → 0 ≤ p.needs.getD i 0 ∧ p.needs.getD i 0 ≤ Dr.cn p.stages (i : Int) k)) (fun _ s _ => n' - (intOf s).toNat)
      case atStart => exact ⟨0, rfl, rfl, by omega, rfl, Lib.hid fun i hi => by omega⟩
      case round =>
        obtain ⟨j, rfl, rfl, hj, rfl, HJ⟩ := hrel
        by_cases hjl : j < n'
        case neg =>
          have d4 : decide ((j : Int) ≤ M) = false := decide_eq_false (by omega)
          have HZ : Hid (true = z) := Lib.hid ((decide_eq_true (HE.out.1 fun i hi => HJ.out i (by omega))).symm.trans HN.out.2.2.2)
          go_wp2
          go_ret
          exact ⟨ret_bool HZ.out, H1.out.2⟩
        have d4 : decide ((j : Int) ≤ M) = true := decide_eq_true (by omega)
        go_wp2
        go_loopw [6, 7] (fun y i w' => ∃ (t : Nat) (Y : Int), y = .int .i64 Y ∧ i = .int .i64 (t : Int) ∧ t ≤ k ∧ 0 ≤ Y ∧ Y ≤ 9 ∧ w' = wr ∧ Hid (Y = Dr.cn p.stages (j : Int) t)) (fun _ i _ => k - (intOf i).toNat)
        case atStart => exact ⟨0, 0, rfl, rfl, by omega, by omega, by omega, rfl, Lib.hid rfl⟩
        case round =>
          obtain ⟨t, Y, rfl, rfl, ht, hY0, hY9, rfl, HY⟩ := hrel
          by_cases htl : t < k
          · have d5 : decide ((t : Int) < (k : Int)) = true := decide_eq_true (by omega)
            obtain ⟨x, hx⟩ : ∃ x, p.stages.getD t 0 = x := ⟨_, rfl⟩
            have kc : wr.cell? ⟨b, off + t, none⟩ = some (.int .i64 x) := hx ▸ HC.out t htl
            by_cases hxj : x = (j : Int)
            · have d6 : (x == (j : Int)) = true := by simp [hxj]
              have hY' : Y + 1 = Dr.cn p.stages (j : Int) (t + 1) := by
                show _ = Dr.cn p.stages (j : Int) t + _
                rw [hx, if_pos hxj, HY.out]
              have hY9' : Y + 1 ≤ 9 := by rw [hY']; have := Dr.cn_hi p.stages (j : Int) (t + 1); omega
              have HY' := Lib.hid hY'
              clear hY' hx hxj
              go_wp2
              exact ⟨⟨t + 1, Y + 1, rfl, rfl, by omega, by omega, by omega, trivial, HY'⟩, by simp [intOf]; omega⟩
            · have d6 : (x == (j : Int)) = false := by simp [hxj]
              have hY' : Y = Dr.cn p.stages (j : Int) (t + 1) := by
                show _ = Dr.cn p.stages (j : Int) t + _
                rw [hx, if_neg hxj, HY.out]; omega
              have HY' := Lib.hid hY'
              clear hY' hx hxj
              go_wp2
              exact ⟨⟨t + 1, Y, rfl, rfl, by omega, by omega, by omega, trivial, HY'⟩, by simp [intOf]; omega⟩
          · have d5 : decide ((t : Int) < (k : Int)) = false := decide_eq_false (by omega)
            obtain rfl : t = k := by omega
            obtain ⟨v, hv⟩ : ∃ v, p.needs.getD j 0 = v := ⟨_, rfl⟩
            have kv : wr.cell? ⟨b', off' + j, none⟩ = some (.int .i64 v) := hv ▸ HC'.out j hjl
            have HV := Lib.hid hv
            clear hv htl
            by_cases hv0 : v < 0
            · have d7 : decide (v < 0) = true := decide_eq_true hv0
              have HZ : Hid (false = z) := Lib.hid ((decide_eq_false (by intro h; have := (HE.out.2 h j hjl).1; rw [HV.out] at this; omega)).symm.trans HN.out.2.2.2)
              go_wp2
              go_ret
              exact ⟨ret_bool HZ.out, H1.out.2⟩
            have d7 : decide (v < 0) = false := decide_eq_false hv0
            by_cases hvy : Y < v
            · have d8 : decide (Y < v) = true := decide_eq_true hvy
              have HZ : Hid (false = z) := Lib.hid ((decide_eq_false (by intro h; have := (HE.out.2 h j hjl).2; rw [HV.out, ← HY.out] at this; omega)).symm.trans HN.out.2.2.2)
              go_wp2
              go_ret
              exact ⟨ret_bool HZ.out, H1.out.2⟩
            have d8 : decide (Y < v) = false := decide_eq_false hvy
            have HJ' : Hid (∀ i, i < j + 1 → 0 ≤ p.needs.getD i 0 ∧ p.needs.getD i 0 ≤ Dr.cn p.stages (i : Int) t) := Lib.hid fun i hi => by
              by_cases e : i = j
              · subst e; rw [HV.out, ← HY.out]; omega
              · exact HJ.out i (by omega)
            go_wp2
            go_roundw
            case rel => exact ⟨j + 1, rfl, by go_num, by omega, by first | rfl | trivial, HJ'⟩
            case measure => simp [intOf]; omega
end Go.Proofs.Ytegdopbiiddamaa
