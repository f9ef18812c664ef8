/-
  The walk of RoundOnce.
-/
import Derived.Test.YtanojjcbbjgefaaTe
namespace Rn
theorem mem_take_succ {l : List Int} {i : Nat} (h : i < l.length) (x : Int) : x ∈ l.take (i + 1) ↔ x ∈ l.take i ∨ x = l.getD i 0 := by
  have e : l.getD i 0 = l[i] := by simp [h]
  rw [e, List.take_add_one, List.getElem?_eq_getElem h, List.mem_append, Option.toList_some, List.mem_singleton]
theorem not_seen {l : List Int} (hd : l.Nodup) {i : Nat} (h : i < l.length) : l.getD i 0 ∉ l.take i := by
  intro hm
  obtain ⟨j, hj, e⟩ := List.getElem_of_mem hm
  rw [List.length_take] at hj
  rw [List.getElem_take] at e
  have e2 : l.getD i 0 = l[i] := by simp [h]
  rw [e2] at e
  have := (List.getElem_inj hd).1 e
  omega
end Rn
namespace Go.Proofs.Ytanojjcbbjgefaa
open Go.RowKit Go.Great
set_option maxRecDepth 20000
set_option linter.unusedVariables false
set_option linter.unusedSimpArgs false
open Rn
/-- Which of nine numbers are among some. -/
def sb (l : List Int) : List Value := (List.range 9).map fun x : Nat => .bool (decide ((x : Int) ∈ l))
theorem sb_get (l : List Int) {x : Nat} (h : x < 9) : (sb l)[x]? = some (.bool (decide ((x : Int) ∈ l))) := by simp [sb, h]
theorem sb_set {l l' : List Int} {x : Nat} (hx : x < 9) (h : ∀ y, y ∈ l' ↔ y ∈ l ∨ y = (x : Int)) : (sb l).toArray.setIfInBounds x (.bool true) = (sb l').toArray := by
  rw [List.setIfInBounds_toArray]
  congr 1
  unfold sb
  refine List.ext_getElem (by simp) fun i h1 h2 => ?_
  rw [List.getElem_set]
  simp only [List.getElem_map, List.getElem_range]
  split
  · rename_i e
    subst e
    rw [decide_eq_true ((h _).2 (Or.inr rfl))]
  · rename_i e
    congr 1
    rw [decide_eq_decide, h]
    constructor
    · exact Or.inl
    · rintro (h | h)
      · exact h
      · exact absurd h (by omega)
theorem built_s9 : Try.prog.built 31 [] = some (sb []).toArray := by kernel_rfl
theorem zero_s9 : (sb []).toArray = #[.bool false, .bool false, .bool false, .bool false, .bool false, .bool false, .bool false, .bool false, .bool false] := by kernel_rfl
theorem info_s9 : (Try.prog.info? 31).map (·.size) = some 9 := by kernel_rfl
set_option maxHeartbeats 4000000 in
theorem once_walk (hr : Rnd) (hw : Awake) (n me d : Int) (hn : In64 n) (hme : In64 me) (hd : U64 d) (w : World) : Calls Try.prog 4 #[.int .i64 n, .int .i64 me, .int .u64 d] w fun e w' => e = .returned (.bool true) ∧ Below w.heap.size w w' := by
  have HR := Lib.hid hr
  have HA := Lib.hid hw
  have HI := Lib.hid (And.intro hn (And.intro hme hd))
  clear hr hw hn hme hd
  go_enter Try.func4, Try.ntmps4
  go_wp2_with fail
  refine (HA.out w).mono ?_
  rintro e w1 ⟨rfl, hb1⟩
  have HB1 := Lib.hid hb1
  clear hb1
  go_wp2_with fail
  refine (HR.out.order n me d w1 HI.out.1 HI.out.2.1 HI.out.2.2).mono ?_
  rintro e w2 ⟨a2, n2, c2, rfl, hm2, hb2⟩
  have HB2 := Lib.hid (HB1.out.trans (hb2.mono HB1.out.size))
  by_cases hbad : Bad n me
  · rw [ord_bad hbad] at hm2 ⊢
    have hl2 : n2 = 0 := hm2.len.symm
    subst hl2
    have qd : (d == d) = true := by simp
    unfold Bad at hbad
    clear hm2 hb2
    by_cases z1 : n < 1
    · skip
      go_wp2
      go_ret
      exact ⟨rfl, HB2.out⟩
    by_cases z2 : n > 9
    · skip
      go_wp2
      go_ret
      exact ⟨rfl, HB2.out⟩
    by_cases z3 : me < 0
    · skip
      go_wp2
      go_ret
      exact ⟨rfl, HB2.out⟩
    have z4 : me ≥ n := by omega
    clear hbad
    go_wp2
    go_ret
    exact ⟨rfl, HB2.out⟩
  obtain ⟨N, hN⟩ : ∃ N : Nat, n = (N : Int) := ⟨n.toNat, by unfold Bad at hbad; omega⟩
  subst hN
  obtain ⟨l, hl⟩ : ∃ l, ord (N : Int) me d = l := ⟨_, rfl⟩
  rw [hl] at hm2 ⊢
  have HL : Hid (l.1.length = n2 ∧ l.1.Nodup ∧ ∀ x ∈ l.1, 0 ≤ x ∧ x < (N : Int) ∧ x ≠ me) := Lib.hid ⟨hm2.len, by rw [← hl]; exact ord_nodup hbad, fun x hx => by rw [← hl] at hx; exact (ord_mem hbad).1 hx⟩
  have hk : n2 = N - 1 := by rw [← hm2.len, ← hl, ord_len hbad]; omega
  unfold Bad at hbad
  have z1 : ¬ ((N : Int) < 1) := by omega
  have z2 : ¬ ((N : Int) > 9) := by omega
  have z3 : ¬ (me < 0) := by omega
  have z4 : ¬ (me ≥ (N : Int)) := by omega
  have hN9 : N ≤ 9 := by omega
  have hn8 : n2 ≤ 8 := by omega
  have hwk : IntKind.i64.wrap ((N : Int) - 1) = (n2 : Int) := by rw [IntKind.wrap_i64]; omega
  have qk : ((n2 : Int) == (n2 : Int)) = true := by simp
  have H2 := Lib.hid hm2
  clear hl hm2 hb2 hbad hk
  have hz := Whole.new w2 31 (sb []).toArray
  rw [zero_s9] at hz
  go_upto_region 6 with (first
    | ((with_reducible show wpList _ _ _ ((⟨_, Op.build 31 _, _, _, _, _⟩ : Oper) :: _) _ _); refine wpList_built rfl _ rfl _ rfl (sb []) built_s9 ?_)
    | ((with_reducible show wpList _ _ _ ((⟨_, Op.store 31 _ _, _, _, _, _⟩ : Oper) :: _) _ _); refine wpList_store_row rfl 31 (.tmp 10) (.tmp 46) rfl w2.heap.size (sb []).toArray rfl rfl 31 _ hz info_s9 rfl (by kernel_rfl) ?_)
    | fail)
  have hW4 : Whole ((w2.alloc (.cells #[.bool false, .bool false, .bool false, .bool false, .bool false, .bool false, .bool false, .bool false, .bool false] 31)).setRow w2.heap.size (sb []).toArray) w2.heap.size 31 (sb []).toArray := hz.row _
  have hb4 : Below w2.heap.size w2 ((w2.alloc (.cells #[.bool false, .bool false, .bool false, .bool false, .bool false, .bool false, .bool false, .bool false, .bool false] 31)).setRow w2.heap.size (sb []).toArray) := below_row (below_alloc w2 _) (Nat.le_refl _) _
  generalize (w2.alloc (.cells #[.bool false, .bool false, .bool false, .bool false, .bool false, .bool false, .bool false, .bool false, .bool false] 31)).setRow w2.heap.size (sb []).toArray = w4 at *
  obtain ⟨gs, hgs⟩ : ∃ gs, w2.heap.size = gs := ⟨_, rfl⟩
  rw [hgs] at hW4 hb4 ⊢
  have H0 : Hid (Whole w4 gs 31 (sb (l.1.take 0)).toArray ∧ Below gs w4 w4) := Lib.hid ⟨hW4, Below.refl _ _⟩
  have H4 : Hid (Below w.heap.size w w4 ∧ (0 < n2 → ∃ g, a2 = some ⟨g, 0, none⟩ ∧ g < gs ∧ n2 ≤ c2 ∧ ∀ k, k < n2 → w4.cell? ⟨g, k, none⟩ = some (.int .i64 (l.1.getD k 0))) ∧ w.heap.size ≤ gs) := Lib.hid ⟨HB2.out.trans (hb4.mono (by rw [← hgs]; exact HB2.out.size)), fun h0 => by
    obtain ⟨g, e, _, h2, h3, h4⟩ := H2.out.form h0
    exact ⟨g, e, by rw [← hgs]; exact h2, h3, fun k hk => (hb4.cell (p := ⟨g, k, none⟩) (by rw [← hgs]; exact h2)).trans (h4 k hk).1⟩, by rw [← hgs]; exact HB2.out.size⟩
  clear hW4 hb4 hgs hz H2 HB2
  go_wp2
  go_loopw [11] (fun v wr => ∃ j : Nat, j ≤ n2 ∧ v = .int .i64 (j : Int) ∧ Hid (Whole wr gs 31 (sb (l.1.take j)).toArray ∧ Below gs w4 wr)) (fun v _ => n2 - (intOf v).toNat)
  case atStart => exact ⟨0, Nat.zero_le _, rfl, H0⟩
  case round =>
    clear H0
    obtain ⟨j, hj, rfl, HJ⟩ := hrel
    by_cases hlt : j < n2
    · have q1 : (j : Int) < (n2 : Int) := by omega
      obtain ⟨g, rfl, hg, hc, hcell⟩ := H4.out.2.1 (by omega)
      have hjl : j < l.1.length := by rw [HL.out.1]; exact hlt
      obtain ⟨x, hx⟩ : ∃ x, l.1.getD j 0 = x := ⟨_, rfl⟩
      have hxm : x ∈ l.1 := by
        have e : l.1.getD j 0 = l.1[j] := by simp [hjl]
        rw [← hx, e]
        exact List.getElem_mem hjl
      obtain ⟨x0, x1, x2⟩ := HL.out.2.2 x hxm
      obtain ⟨X, hX⟩ : ∃ X : Nat, x = (X : Int) := ⟨x.toNat, by omega⟩
      subst hX
      have c0 : wr.cell? ⟨g, j, none⟩ = some (.int .i64 (X : Int)) := by rw [← hx]; exact (HJ.out.2.cell (p := ⟨g, j, none⟩) hg).trans (hcell j hlt)
      have hns : (X : Int) ∉ l.1.take j := by rw [← hx]; exact not_seen HL.out.2.1 hjl
      have c1 : wr.cell? ⟨gs, X, none⟩ = some (.bool false) := by
        have := HJ.out.1.cell X
        rw [List.getElem?_toArray, sb_get _ (by omega), decide_eq_false hns] at this
        exact this
      have f1 : wr.frozen? ⟨gs, X, none⟩ = false := HJ.out.1.frozen X
      have hX9 : X < 9 := by omega
      have y0 : ¬ ((X : Int) < 0) := by omega
      have y1 : ¬ ((X : Int) ≥ (N : Int)) := by omega
      have y2 : ((X : Int) == me) = false := by simp [x2]
      have hW := HJ.out.1.set X (.bool true)
      rw [sb_set (l' := l.1.take (j + 1)) hX9 (fun y => by rw [mem_take_succ hjl, hx])] at hW
      have HV : Hid (Whole (wr.setCell ⟨gs, X, none⟩ (.bool true)) gs 31 (sb (l.1.take (j + 1))).toArray ∧ Below gs w4 (wr.setCell ⟨gs, X, none⟩ (.bool true))) := Lib.hid ⟨hW, HJ.out.2.setCell (p := ⟨gs, X, none⟩) (Nat.le_refl _) _⟩
      have qj : IntKind.i64.wrap ((j : Int) + 1) = ((j + 1 : Nat) : Int) := by rw [IntKind.wrap_i64]; omega
      clear hcell hx hxm x0 x1 x2 hns hW hjl hg
      go_wp2
      exact ⟨⟨j + 1, by omega, by go_num, HV⟩, by simp [intOf] <;> omega⟩
    · have q1 : ¬ ((j : Int) < (n2 : Int)) := by omega
      go_wp2
      go_ret
      exact ⟨rfl, H4.out.1.trans (HJ.out.2.mono H4.out.2.2)⟩
end Go.Proofs.Ytanojjcbbjgefaa
