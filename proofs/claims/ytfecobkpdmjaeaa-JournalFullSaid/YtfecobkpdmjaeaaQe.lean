/-
  The walk of lifeBehind.
-/
import Derived.Test.YtfecobkpdmjaeaaQd
namespace Go.Proofs.Ytfecobkpdmjaeaa
open Go.RowKit
set_option linter.unusedVariables false
set_option linter.unusedSimpArgs false
set_option maxRecDepth 20000
theorem info_kn {b : List Int} (h : b.length = 64) : (Try.prog.info? 80).map (·.size) = some (nums b).toArray.size := by rw [List.size_toArray]; exact info_km h
theorem zero_k (w : World) : (zeroValue 80).run Try.prog w = .ok (.agg zb) w := by kernel_rfl
theorem boxedk (w : World) (l : List Int) : ∃ w', (w.alloc (.cells zb 80)).setRow w.heap.size (nums l).toArray = w' ∧ Whole w' w.heap.size 80 (nums l).toArray ∧ Below w.heap.size w w' :=
  ⟨_, rfl, (Whole.new w _ _).row _, below_row ((Below.refl _ _).alloc (Nat.le_refl _) _) (Nat.le_refl _) _⟩
theorem kb_nums {b : List Int} (h : Blk b) : KB (nums b).toArray b := ⟨rfl, h⟩
theorem whole_range {w : World} {g : Nat} {t : TypeId} {l : List Value} (h : Whole w g t l.toArray) : w.rangeAt g 0 l := fun j v hv => by rw [h.cell, List.getElem?_toArray, Nat.zero_add]; exact hv
def cap (n : Nat) : Nat := if n ≤ 1099511627776 then n else 0
def grt (bs : List (List Int)) : Nat := bs.foldl (fun m b => max m (max (cap (hd b)) (cap (tl b)))) 0
theorem grt_snoc (bs : List (List Int)) (b : List Int) : grt (bs ++ [b]) = max (grt bs) (max (cap (hd b)) (cap (tl b))) := by unfold grt; rw [List.foldl_append]; rfl
theorem cap_le (n : Nat) : cap n ≤ 1099511627776 := by unfold cap; split <;> omega
theorem grt_le (bs : List (List Int)) : grt bs ≤ 1099511627776 := by
  have : ∀ (bs : List (List Int)) (m : Nat), m ≤ 1099511627776 → bs.foldl (fun m b => max m (max (cap (hd b)) (cap (tl b)))) m ≤ 1099511627776 := by
    intro bs
    induction bs with
    | nil => intro m h; exact h
    | cons b bs ih => intro m h; exact ih _ (by have := cap_le (hd b); have := cap_le (tl b); show max m (max (cap (hd b)) (cap (tl b))) ≤ _; omega)
  exact this bs 0 (by omega)
theorem take_snocB (bs : List (List Int)) (k : Nat) (h : k < bs.length) : bs.take (k + 1) = bs.take k ++ [bs.getD k []] := by
  rw [List.take_succ_eq_append_getElem h]; simp [List.getD, h]
theorem cap_max (m x : Nat) : max m (cap x) = if x ≤ 1099511627776 then max m x else m := by unfold cap; split <;> omega
theorem built_two (x y : Int) : Try.prog.built 96 [(0, .int .u64 x), (1, .int .u64 y)] = some #[.int .u64 x, .int .u64 y] := by kernel_rfl
theorem yields_build {ops : Array Oper} {S : World → Prop} {o : Oper} {a : Act} (ty : TypeId) (hw : Region.wanted o (yielded ops a.tmps) = true) (parts : List (Nat × Operand)) (ho : o.op = .build ty parts.toArray)
    (vs : List (Nat × Value)) (hv : parts.map (fun q => (q.1, a.eval q.2)) = vs) (cells : Array Value) (hc : Try.prog.built ty vs = some cells) : YieldsIf Try.prog ops S o (.agg cells) a := by
  have e : (parts.toArray.map fun (i, x) => (i, a.eval x)).toList = vs := by rw [← hv]; simp
  refine Or.inl ⟨hw, fun w _ => ?_⟩
  unfold execOp
  simp only [ho, Sem.run_bind, run_build w ty _ cells (by rw [e, hc]), Result.andThen_ok]
  rfl
theorem index_0 (x y : Value) (w : World) : (Instr.index 96 (.agg #[x, y]) (.int .i64 0)).run Try.prog w = .ok x w := by kernel_rfl
theorem index_1 (x y : Value) (w : World) : (Instr.index 96 (.agg #[x, y]) (.int .i64 1)).run Try.prog w = .ok y w := by kernel_rfl
def sq (G x y : Nat) : Nat → Nat
  | 0 => G
  | 1 => max G (cap x)
  | _ => max (max G (cap x)) (cap y)
theorem sq_le {G x y j : Nat} (h : G ≤ 1099511627776) : sq G x y j ≤ 1099511627776 := by
  have := cap_le x
  have := cap_le y
  match j with
  | 0 => exact h
  | 1 => show max G (cap x) ≤ _; omega
  | j + 2 => show max (max G (cap x)) (cap y) ≤ _; omega
theorem sq_one (G x y : Nat) : sq G x y 1 = if x ≤ 1099511627776 then max (sq G x y 0) x else sq G x y 0 := cap_max _ _
theorem sq_two (G x y : Nat) : sq G x y 2 = if y ≤ 1099511627776 then max (sq G x y 1) y else sq G x y 1 := cap_max _ _
set_option maxHeartbeats 4000000 in
theorem behind_any {g m : Nat} {bs : List (List Int)} {w : World} (h : Whole w g 80 (nums bs.flatten).toArray) (hA : Alls bs) (hm : bs.length = m) (hml : m ≤ 100000) :
    Calls Try.prog 36 #[.slice (some ⟨g, 0, none⟩) m m] w fun e w' => e = .returned (.int .i64 (((grt bs : Nat) : Int) + 1)) ∧ Below w.heap.size w w' := by
  have H0 : Hid (Whole w g 80 (nums bs.flatten).toArray ∧ Below w.heap.size w w) := Lib.hid ⟨h, Below.refl _ _⟩
  have HL := Lib.hid (And.intro hA hm)
  have HG : Hid (g < w.heap.size) := Lib.hid h.lt
  clear h hA hm
  go_enter Try.func36, Try.ntmps36
  go_wp2
  go_loopw [3, 10] (fun v i wr => ∃ k : Nat, k ≤ m ∧ i = .int .i64 (k : Int) ∧ v = .int .u64 ((grt (bs.take k) : Nat) : Int) ∧ Hid (Whole wr g 80 (nums bs.flatten).toArray ∧ Below w.heap.size w wr)) (fun _ i _ => m - (intOf i).toNat)
  case atStart => exact ⟨0, Nat.zero_le _, rfl, rfl, H0⟩
  case round =>
    clear H0
    obtain ⟨k, hk, rfl, rfl, HB⟩ := hrel
    have hG := grt_le (bs.take k)
    by_cases hlt : k < m
    · have q1 : (k : Int) < (m : Int) := by omega
      obtain ⟨G, hGe⟩ : ∃ G, grt (bs.take k) = G := ⟨_, rfl⟩
      rw [hGe] at hG
      rw [hGe]
      obtain ⟨b, hb⟩ : ∃ b, bs.getD k [] = b := ⟨_, rfl⟩
      have hbk : Blk b := by rw [← hb]; exact blk_get' HL.out.1 (by have := HL.out.2; omega)
      have hrg : wr.rangeAt g (k * 64) (nums b) := by rw [← hb]; exact flat_range HB.out.1 HL.out.1 (by have := HL.out.2; omega)
      have hnx : grt (bs.take (k + 1)) = max G (max (cap (hd b)) (cap (tl b))) := by rw [take_snocB bs k (by have := HL.out.2; omega), hb, grt_snoc, hGe]
      obtain ⟨w2, h2, k2, b2⟩ := boxedk wr b
      have hw2 := HB.out.1.keep (b2.block _ HB.out.1.lt)
      have HN := Lib.hid (And.intro hbk (And.intro hrg (And.intro hnx (And.intro h2 (And.intro k2 (And.intro hw2 (HB.out.2.trans (b2.mono HB.out.2.size))))))))
      have HX := Lib.hid (And.intro (hd_lt hbk) (tl_lt hbk))
      clear hb hbk hrg hnx h2 k2 b2 hw2 hGe
      have hzk := zero_k
      go_upto_region 5 with (first | ((with_reducible show wpList _ _ _ ((⟨_, Op.load 80 _, _, _, _, _⟩ : Oper) :: _) _ _); refine wpList_load_mid rfl 80 (.tmp 12) rfl g (k * 64) rfl (nums b) _ HN.out.2.1 und_k rfl (info_km HN.out.1.1) ?_) | ((with_reducible show wpList _ _ _ ((⟨_, Op.store 80 _ _, _, _, _, _⟩ : Oper) :: _) _ _); refine wpList_store_row rfl 80 (.tmp 5) (.tmp 13) rfl wr.heap.size (nums b).toArray rfl rfl 80 zb (Whole.new wr _ _) (info_kn HN.out.1.1) (size_bn HN.out.1.1) (all_nums _) ?_; rw [HN.out.2.2.2.1]) | fail)
      clear hzk
      have r0 := whole_range HN.out.2.2.2.2.1
      refine wp_region_held_drew (S := fun w' => w'.rangeAt wr.heap.size 0 (nums b)) (by kernel_rfl) r0 (fun hHeld => ?_)
      refine wpAnyH_take (i := 0) (v := .agg (nums b).toArray) rfl (by kernel_rfl) (by kernel_rfl) (by kernel_rfl) (fun _ _ _ h => h) (yieldsIf_load_mid (by rfl) 80 _ rfl _ _ rfl _ _ (fun w hSw => hSw) und_k rfl (info_km HN.out.1.1)) (by assumption) ?_
      try simp only [Act.put, List.getElem_toArray, List.getElem_cons_zero, List.getElem_cons_succ, List.setIfInBounds_toArray, List.set_cons_zero, List.set_cons_succ]
      refine wpAnyH_take (i := 2) (v := .agg (nums b).toArray) rfl (by kernel_rfl) (by kernel_rfl) (by kernel_rfl) (fun _ _ _ h => h) (yieldsIf_load_mid (by rfl) 80 _ rfl _ _ rfl _ _ (fun w hSw => hSw) und_k rfl (info_km HN.out.1.1)) (by assumption) ?_
      try simp only [Act.put, List.getElem_toArray, List.getElem_cons_zero, List.getElem_cons_succ, List.setIfInBounds_toArray, List.set_cons_zero, List.set_cons_succ]
      refine wpAnyH_take (i := 5) (v := .int .i64 0) rfl (by kernel_rfl) (by kernel_rfl) (by kernel_rfl) (fun _ _ _ h => h) (Or.inl ⟨by rfl, (by intro w hSw; (try dsimp only at hSw); go_simp)⟩) (by assumption) ?_
      try simp only [Act.put, List.getElem_toArray, List.getElem_cons_zero, List.getElem_cons_succ, List.setIfInBounds_toArray, List.set_cons_zero, List.set_cons_succ]
      refine wpAnyH_ready (rs := [1]) (by kernel_rfl) (by simp) (AllReadyH.cons rfl (fun K hK => ?_) AllReadyH.nil)
      try simp only [List.getElem_toArray, List.getElem_cons_zero, List.getElem_cons_succ]
      go_simp
      refine (head_any (kb_nums HN.out.1)).mono ?_
      rintro e w3 ⟨rfl, hb3⟩
      have r3 : w3.rangeAt wr.heap.size 0 (nums b) := whole_range (HN.out.2.2.2.2.1.below (below_drew hb3) HN.out.2.2.2.2.1.lt)
      have H3 := Lib.hid (And.intro (HN.out.2.2.2.2.2.1.below (below_drew hb3) HN.out.2.2.2.2.2.1.lt) (HN.out.2.2.2.2.2.2.trans ((below_drew hb3).mono HN.out.2.2.2.2.2.2.size)))
      have H3' := Lib.hid (HN.out.2.2.2.2.1.below (below_drew hb3) HN.out.2.2.2.2.1.lt)
      clear hb3 hHeld r0
      go_wp2_with fail
      refine hK.out _ _ r3 (fun hHeld => ?_)
      clear hK K hHeld
      try simp only [Act.put, List.getElem_toArray, List.getElem_cons_zero, List.getElem_cons_succ, List.setIfInBounds_toArray, List.set_cons_zero, List.set_cons_succ]
      have hHeld := r3
      refine wpAnyH_ready (rs := [3]) (by kernel_rfl) (by simp) (AllReadyH.cons rfl (fun K hK => ?_) AllReadyH.nil)
      try simp only [List.getElem_toArray, List.getElem_cons_zero, List.getElem_cons_succ]
      go_simp
      refine (tail_any (kb_nums HN.out.1)).mono ?_
      rintro e w4 ⟨rfl, hb4⟩
      have r4 : w4.rangeAt wr.heap.size 0 (nums b) := whole_range (H3'.out.below hb4 H3'.out.lt)
      have H4 := Lib.hid (And.intro (H3.out.1.below hb4 H3.out.1.lt) (H3.out.2.trans (hb4.mono H3.out.2.size)))
      clear hb4 hHeld r3
      go_wp2_with fail
      refine hK.out _ _ r4 (fun hHeld => ?_)
      clear hK K
      try simp only [Act.put, List.getElem_toArray, List.getElem_cons_zero, List.getElem_cons_succ, List.setIfInBounds_toArray, List.set_cons_zero, List.set_cons_succ]
      refine wpAnyH_take (i := 4) (v := .agg #[.int .u64 ((hd b : Nat) : Int), .int .u64 ((tl b : Nat) : Int)]) rfl (by kernel_rfl) (by kernel_rfl) (by kernel_rfl) (fun _ _ _ h => h) (yields_build 96 (by rfl) [(0, .tmp 15), (1, .tmp 17)] rfl [(0, .int .u64 ((hd b : Nat) : Int)), (1, .int .u64 ((tl b : Nat) : Int))] rfl _ (built_two _ _)) (by assumption) ?_
      try simp only [Act.put, List.getElem_toArray, List.getElem_cons_zero, List.getElem_cons_succ, List.setIfInBounds_toArray, List.set_cons_zero, List.set_cons_succ]
      refine wpAnyH_done (by kernel_rfl) ?_ _
      obtain ⟨x, hx⟩ : ∃ x, hd b = x := ⟨_, rfl⟩
      obtain ⟨y, hy⟩ : ∃ y, tl b = y := ⟨_, rfl⟩
      rw [hx, hy] at HX ⊢
      have hxl := HX.out.1
      have hyl := HX.out.2
      have HE : Hid (grt (bs.take (k + 1)) = sq G x y 2) := Lib.hid (by rw [HN.out.2.2.1, hx, hy]; unfold sq; simp [Nat.max_assoc])
      clear hx hy HX HN H3 H3' r4 hHeld HB
      go_wp2
      go_loopw [3, 19] (fun v i wr => ∃ j : Nat, j ≤ 2 ∧ i = .int .i64 (j : Int) ∧ v = .int .u64 ((sq G x y j : Nat) : Int) ∧ wr = w4) (fun _ i _ => 2 - (intOf i).toNat)
      case atStart => exact ⟨0, by omega, rfl, rfl, rfl⟩
      case round =>
        obtain ⟨j, hj, rfl, rfl, rfl⟩ := hrel
        obtain ⟨M, hM⟩ : ∃ M, sq G x y j = M := ⟨_, rfl⟩
        have hMl : M ≤ 1099511627776 := by rw [← hM]; exact sq_le hG
        rw [hM]
        match j, hj with
        | 0, _ =>
          have HS : Hid (sq G x y 1 = if x ≤ 1099511627776 then max M x else M) := Lib.hid (by rw [← hM]; exact sq_one G x y)
          have hi0 := index_0 (.int .u64 (x : Int)) (.int .u64 (y : Int))
          clear hM
          by_cases q2 : x ≤ 1099511627776
          · have q2' : (x : Int) ≤ 1099511627776 := by omega
            go_wp2
            go_roundw
            case rel =>
              refine ⟨1, by omega, rfl, ?_, trivial⟩
              rw [HS.out, if_pos q2]
              congr 1
              split <;> omega
            case measure => simp [intOf]
          · have q2' : decide ((x : Int) ≤ 1099511627776) = false := by simp; omega
            have q2'' : ¬ (x : Int) ≤ 1099511627776 := by omega
            go_wp2
            go_roundw
            case rel => exact ⟨1, by omega, rfl, by rw [HS.out, if_neg q2], trivial⟩
            case measure => simp [intOf]
        | 1, _ =>
          have HS : Hid (sq G x y 2 = if y ≤ 1099511627776 then max M y else M) := Lib.hid (by rw [← hM]; exact sq_two G x y)
          have hi0 := index_1 (.int .u64 (x : Int)) (.int .u64 (y : Int))
          clear hM
          by_cases q2 : y ≤ 1099511627776
          · have q2' : (y : Int) ≤ 1099511627776 := by omega
            go_wp2
            go_roundw
            case rel =>
              refine ⟨2, by omega, rfl, ?_, trivial⟩
              rw [HS.out, if_pos q2]
              congr 1
              split <;> omega
            case measure => simp [intOf]
          · have q2' : decide ((y : Int) ≤ 1099511627776) = false := by simp; omega
            have q2'' : ¬ (y : Int) ≤ 1099511627776 := by omega
            go_wp2
            go_roundw
            case rel => exact ⟨2, by omega, rfl, by rw [HS.out, if_neg q2], trivial⟩
            case measure => simp [intOf]
        | 2, _ =>
          have HE2 : Hid (grt (bs.take (k + 1)) = M) := Lib.hid (by rw [HE.out, hM])
          clear hM
          go_wp2
          go_roundw
          case rel => exact ⟨k + 1, by omega, by go_num, by rw [HE2.out], H4⟩
          case measure => simp [intOf]; omega
    · obtain rfl : k = m := by omega
      have q1 : ¬ (k : Int) < (k : Int) := by omega
      have e : bs.take k = bs := List.take_of_length_le (by have := HL.out.2; omega)
      rw [e] at hG ⊢
      clear e
      obtain ⟨G, hGe⟩ : ∃ G, grt bs = G := ⟨_, rfl⟩
      rw [hGe] at hG ⊢
      have HZ := Lib.hid hGe
      clear hGe
      go_wp2
      go_ret
      exact ⟨by rw [HZ.out]; rfl, HB.out.2⟩
end Go.Proofs.Ytfecobkpdmjaeaa
