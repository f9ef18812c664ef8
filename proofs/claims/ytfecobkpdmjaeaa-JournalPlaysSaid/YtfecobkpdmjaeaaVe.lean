/-
  The document's Open.
-/
import Derived.Test.YtfecobkpdmjaeaaVb
import Derived.Test.YtfecobkpdmjaeaaVd
import Derived.Test.YtfecobkpdmjaeaaYe
namespace Go.Proofs.Ytfecobkpdmjaeaa
open Go.RowKit
set_option linter.unusedVariables false
set_option linter.unusedSimpArgs false
set_option maxRecDepth 20000
theorem Rk.row {w : World} {B r n k : Nat} {vL vN vD : Value} {a : Dm.A} (h : Rk w B r vL vN vD a n) (hk : k < n) : ∃ nb nc, vN = .slice (some ⟨nb, 0, none⟩) n nc ∧ nb < w.heap.size ∧ ∀ k, k < n → w.rangeAt nb (k * 64) (nums (Dm.read a k)) := by
  obtain ⟨nb, nc, cur, hvN, hnbB, hnb, hns, hnt, hnc1, hnc2, hnc3⟩ := own_at h.now (by omega)
  refine ⟨nb, nc, hvN, hnb.lt, fun k hk j v hv => ?_⟩
  have hj : j < 64 := by have := (List.getElem?_eq_some_iff.1 hv).1; rw [nums_len, (Dm.read_len h.ok hk).1] at this; exact this
  rw [hnb.cell]
  have e : cur[k * 64 + j]? = (nums (Dm.now a))[k * 64 + j]? := by
    rw [← hnt, List.getElem?_take, if_pos (by omega), Array.getElem?_toList]
  have hl := (Dm.now_get h.ok).1
  rw [e, nums_get _ _ (by omega)]
  rw [nums_get _ _ (by rw [(Dm.read_len h.ok hk).1]; exact hj)] at hv
  rw [← hv, ← (Dm.now_get h.ok).2.2 k]
  congr 2
  rw [List.getD_eq_getElem?_getD, List.getD_eq_getElem?_getD, Dm.blk_get, if_pos hj, Nat.mul_comm 64 k]
/-- The document's journal in memory. -/
structure Rj (w : World) (B j r : Nat) (v : Value) (from_ blocks life used : Nat) (L : List (List Int)) : Prop where
  cells : Whole w j 51 #[.pointer (some ⟨r, 0, none⟩), .int .i64 (from_ : Int), .int .i64 (blocks : Int), .int .i64 (life : Int), .int .i64 (used : Int), v]
  recs : Recs w B v L
theorem good_J1 (p : List Int) (a b : Nat) (R : List (List Int)) (u q : Nat) (x : List Int) (ha : a ≤ 1) (hb : b ≤ 1) (hp : p = []) : Jl.good ⟨a, p, R, u, q⟩ x ↔ Jl.good ⟨b, p, R, u, q⟩ x := by
  unfold Jl.good
  subst hp
  simp only [ne_eq, not_true_eq_false, false_implies, true_and]
  constructor <;> rintro ⟨h1, h2, h3, h4⟩ <;> exact ⟨h1, h2, by omega, h4⟩
theorem go_J1 (bs : List (List Int)) : (Jl.go bs (J0 1)).recs = (Jl.go bs (J0 0)).recs ∧ (Jl.go bs (J0 1)).used = (Jl.go bs (J0 0)).used := by
  cases bs with
  | nil => exact ⟨rfl, rfl⟩
  | cons b t =>
    have hg := good_J1 [] 1 0 [] 0 0 b (by omega) (by omega) rfl
    unfold Jl.go
    by_cases h : Jl.good (J0 1) b
    · rw [if_pos h, if_pos (show Jl.good (J0 0) b from hg.1 h)]
      exact ⟨rfl, rfl⟩
    · rw [if_neg h, if_neg (show ¬ Jl.good (J0 0) b from fun h2 => h (hg.2 h2))]
      exact ⟨rfl, rfl⟩
/-- Where the document's reading is. -/
structure Rin (w wr : World) (j r fr m life : Nat) (vR : Value) (s : Jl.S) : Prop where
  part : s.part.length ≤ 44 * s.pos
  many : s.recs.length ≤ s.pos
  mem : ∃ wo v, Whole wo j 51 #[.pointer (some ⟨r, 0, none⟩), .int .i64 (fr : Int), .int .i64 (m : Int), .int .i64 (life : Int), .int .i64 (s.used : Int), v] ∧ Recs wo j v s.recs ∧ RowU wr wo.heap.size vR s.part ∧ Below wo.heap.size wo wr ∧ Below j w wo
theorem step_pos (s : Jl.S) (b : List Int) : (Jl.step s b).pos = s.pos + 1 ∧ (Jl.step s b).least = Jl.lf b 0 := by unfold Jl.step; split <;> exact ⟨rfl, rfl⟩
def ROpen (bs : List (List Int)) (fr m r : Nat) (w : World) (e : Ending) (w' : World) : Prop := ∃ j v, e = .returned (.tuple #[.pointer (some ⟨j, 0, none⟩), .int .i64 0]) ∧
  Rj w' w.heap.size j r v fr m (grt bs + 1) (Jl.go bs (J0 1)).used (Jl.go bs (J0 1)).recs ∧ w.heap.size ≤ j ∧ Below w.heap.size w w'
set_option maxHeartbeats 8000000 in
theorem ropen_any {B r n fr m : Nat} {vL vN vD : Value} {a : Dm.A} {w : World} (h : Rk w B r vL vN vD a n) (hd : a.down = false) (hm : fr + m ≤ n) :
    Calls Try.prog 14 #[.pointer (some ⟨r, 0, none⟩), .int .i64 (fr : Int), .int .i64 (m : Int)] w (ROpen (bsOf a fr m) fr m r w) := by
  have hsm := h.ok.small
  have c1 := h.c1
  have c3 := h.c3
  rw [hd] at c3
  obtain ⟨ad, cn, hvN, _⟩ := own_formR h.now
  have hBS : Alls (bsOf a fr m) ∧ (bsOf a fr m).length = m := by
    refine ⟨fun x hx => ?_, by simp [bsOf]⟩
    obtain ⟨i, hi, rfl⟩ := List.mem_map.1 hx
    exact Dm.read_len h.ok (by have := List.mem_range.1 hi; omega)
  have HB := Lib.hid hBS
  subst hvN
  have H := Lib.hid h
  clear h hd hBS
  go_enter Try.func14, Try.ntmps14
  have q1 : ¬ (fr : Int) < 0 := by omega
  have q2 : ¬ (m : Int) < 0 := by omega
  have q3 : ¬ (n : Int) < (fr : Int) := by omega
  have q4 : ¬ (n : Int) - (fr : Int) < (m : Int) := by omega
  go_upto_region 6 with fail
  obtain ⟨j, hj⟩ : ∃ j, w.heap.size = j := ⟨_, rfl⟩
  rw [hj]
  have HJ := Lib.hid hj
  obtain ⟨w1, hw1⟩ : ∃ w1, w.alloc (.cells #[.pointer (some ⟨r, 0, none⟩), .int .i64 (fr : Int), .int .i64 (m : Int), .int .i64 1, .int .i64 0, .slice none 0 0] 51) = w1 := ⟨_, rfl⟩
  have H1 : Hid (Whole w1 j 51 #[.pointer (some ⟨r, 0, none⟩), .int .i64 (fr : Int), .int .i64 (m : Int), .int .i64 ((grt ((bsOf a fr m).take 0) + 1 : Nat) : Int), .int .i64 0, .slice none 0 0] ∧ Below j w w1) := Lib.hid (by
    rw [← hw1, ← hj]; exact ⟨Whole.new w _ _, below_alloc _ _⟩)
  rw [hw1]
  clear hw1 hj q1 q2 q3 q4 c1 c3
  go_wp2
  go_loopw [9] (fun vi wr => ∃ k : Nat, k ≤ m ∧ vi = .int .i64 (k : Int) ∧ Hid (Whole wr j 51 #[.pointer (some ⟨r, 0, none⟩), .int .i64 (fr : Int), .int .i64 (m : Int), .int .i64 ((grt ((bsOf a fr m).take k) + 1 : Nat) : Int), .int .i64 0, .slice none 0 0] ∧ Below j w wr)) (fun vi _ => m - (intOf vi).toNat)
  case atStart => exact ⟨0, Nat.zero_le _, rfl, H1⟩
  case round =>
    clear H1
    obtain ⟨k, hk, rfl, HX⟩ := hrel
    by_cases hlt : k < m
    · have q1 : (k : Int) < (m : Int) := by omega
      obtain ⟨G, hGe⟩ : ∃ G, grt ((bsOf a fr m).take k) = G := ⟨_, rfl⟩
      have hG : G ≤ 1099511627776 := by rw [← hGe]; exact grt_le _
      rw [hGe] at HX
      obtain ⟨b, hb⟩ : ∃ b, Dm.read a (fr + k) = b := ⟨_, rfl⟩
      have hrk := H.out.below (by have := HX.out.2; rw [← HJ.out] at this; exact this)
      have hbk : Blk b := by rw [← hb]; exact Dm.read_len H.out.ok (by omega)
      have c1 := hrk.c1
      obtain ⟨nb, nc, hvN, hnl, hrow⟩ := hrk.row (k := fr + k) (by omega)
      injection hvN with hvN1 _ hvN2
      subst hvN1 hvN2
      have hrg : wr.rangeAt nb ((fr + k) * 64) (nums b) := by rw [← hb]; exact hrow _ (by omega)
      have hnx : grt ((bsOf a fr m).take (k + 1)) = max G (max (cap (hd b)) (cap (tl b))) := by
        rw [take_snocB _ k (by rw [HB.out.2]; exact hlt), List.getD_eq_getElem?_getD, bsOf_get, if_pos hlt]
        show grt (_ ++ [Dm.read a (fr + k)]) = _
        rw [hb, grt_snoc, hGe]
      obtain ⟨w2, h2, k2, b2⟩ := boxed wr b
      have hw2 := HX.out.1.keep (b2.block _ HX.out.1.lt)
      have HN := Lib.hid (And.intro hbk (And.intro hrg (And.intro hnx (And.intro h2 (And.intro k2 (And.intro hw2 (HX.out.2.trans (b2.mono (by rw [← HJ.out]; exact HX.out.2.size)))))))))
      have c13 : wr.cell? ⟨j, 3, none⟩ = some (.int .i64 ((G : Int) + 1)) := HX.out.1.cell 3
      clear hb hbk hrg hnx h2 k2 b2 hw2 hGe hrow hrk
      have hzb := zero_b
      go_upto_region 10 with (first | ((with_reducible show wpList _ _ _ ((⟨_, Op.load 45 _, _, _, _, _⟩ : Oper) :: _) _ _); refine wpList_load_mid rfl 45 (.tmp 68) rfl nb ((fr + k) * 64) rfl (nums b) _ HN.out.2.1 und_b rfl (info_bm HN.out.1.1) ?_) | ((with_reducible show wpList _ _ _ ((⟨_, Op.store 45 _ _, _, _, _, _⟩ : Oper) :: _) _ _); refine wpList_store_row rfl 45 (.tmp 10) (.tmp 69) rfl wr.heap.size (nums b).toArray rfl rfl 45 zb (Whole.new wr _ _) (info_bn HN.out.1.1) (size_bn HN.out.1.1) (all_nums _) ?_; rw [HN.out.2.2.2.1]) | fail)
      clear hzb c1 c13 hnl
      obtain ⟨x, hx⟩ : ∃ x, cap (hd b) = x := ⟨_, rfl⟩
      obtain ⟨y, hy⟩ : ∃ y, cap (tl b) = y := ⟨_, rfl⟩
      have hxl : x ≤ 1099511627776 := by rw [← hx]; exact cap_le _
      have hyl : y ≤ 1099511627776 := by rw [← hy]; exact cap_le _
      have HXY := Lib.hid (And.intro hx hy)
      have s1 : IntKind.i64.wrap ((x : Int) + 1) = (x : Int) + 1 := IntWalk.i64_in _ (by omega)
      have s2 : IntKind.i64.wrap ((y : Int) + 1) = (y : Int) + 1 := IntWalk.i64_in _ (by omega)
      have r0 := whole_range HN.out.2.2.2.2.1
      have H2 := Lib.hid (And.intro HN.out.2.2.2.2.2.1 (And.intro HN.out.2.2.2.2.1 HN.out.2.2.2.2.2.2))
      have HM2 : Hid (grt ((bsOf a fr m).take (k + 1)) = max G (max x y)) := Lib.hid (by rw [HN.out.2.2.1, hx, hy])
      have hbk := HN.out.1
      have HBK := Lib.hid hbk
      clear hx hy hbk
      refine wp_region_held_drew (S := fun w' => w'.rangeAt wr.heap.size 0 (nums b)) (by kernel_rfl) r0 (fun hHeld => ?_)
      refine wpAnyH_take (i := 0) (v := .pointer (some ⟨j, 0, none⟩)) rfl (by kernel_rfl) (by kernel_rfl) (by kernel_rfl) (fun _ _ _ h => h) (Or.inl ⟨by rfl, (by intro w hSw; (try dsimp only at hSw); go_simp)⟩) (by assumption) ?_
      try simp only [Act.put, List.getElem_toArray, List.getElem_cons_zero, List.getElem_cons_succ, List.setIfInBounds_toArray, List.set_cons_zero, List.set_cons_succ]
      refine wpAnyH_take (i := 1) (v := .pointer (some ⟨j, 0, none⟩)) rfl (by kernel_rfl) (by kernel_rfl) (by kernel_rfl) (fun _ _ _ h => h) (Or.inl ⟨by rfl, (by intro w hSw; (try dsimp only at hSw); go_simp)⟩) (by assumption) ?_
      try simp only [Act.put, List.getElem_toArray, List.getElem_cons_zero, List.getElem_cons_succ, List.setIfInBounds_toArray, List.set_cons_zero, List.set_cons_succ]
      refine wpAnyH_take (i := 2) (v := .pointer (some ⟨j, 0, none⟩)) rfl (by kernel_rfl) (by kernel_rfl) (by kernel_rfl) (fun _ _ _ h => h) (Or.inl ⟨by rfl, (by intro w hSw; (try dsimp only at hSw); go_simp)⟩) (by assumption) ?_
      try simp only [Act.put, List.getElem_toArray, List.getElem_cons_zero, List.getElem_cons_succ, List.setIfInBounds_toArray, List.set_cons_zero, List.set_cons_succ]
      refine wpAnyH_take (i := 3) (v := .pointer (some ⟨j, 3, none⟩)) rfl (by kernel_rfl) (by kernel_rfl) (by kernel_rfl) (fun _ _ _ h => h) (Or.inl ⟨by rfl, (by intro w hSw; (try dsimp only at hSw); go_simp)⟩) (by assumption) ?_
      try simp only [Act.put, List.getElem_toArray, List.getElem_cons_zero, List.getElem_cons_succ, List.setIfInBounds_toArray, List.set_cons_zero, List.set_cons_succ]
      refine wpAnyH_take (i := 5) (v := .agg (nums b).toArray) rfl (by kernel_rfl) (by kernel_rfl) (by kernel_rfl) (fun _ _ _ h => h) (yieldsIf_load_mid (by rfl) 45 _ rfl _ _ rfl _ _ (fun w hSw => hSw) und_b rfl (info_bm HBK.out.1)) (by assumption) ?_
      try simp only [Act.put, List.getElem_toArray, List.getElem_cons_zero, List.getElem_cons_succ, List.setIfInBounds_toArray, List.set_cons_zero, List.set_cons_succ]
      refine wpAnyH_take (i := 8) (v := .agg (nums b).toArray) rfl (by kernel_rfl) (by kernel_rfl) (by kernel_rfl) (fun _ _ _ h => h) (yieldsIf_load_mid (by rfl) 45 _ rfl _ _ rfl _ _ (fun w hSw => hSw) und_b rfl (info_bm HBK.out.1)) (by assumption) ?_
      try simp only [Act.put, List.getElem_toArray, List.getElem_cons_zero, List.getElem_cons_succ, List.setIfInBounds_toArray, List.set_cons_zero, List.set_cons_succ]
      have Hb : Hid (Whole w2.drew j 51 #[.pointer (some ⟨r, 0, none⟩), .int .i64 (fr : Int), .int .i64 (m : Int), .int .i64 ((G + 1 : Nat) : Int), .int .i64 0, .slice none 0 0] ∧ Whole w2.drew wr.heap.size 45 (nums b).toArray ∧ Below j w w2.drew) := Lib.hid ⟨H2.out.1, H2.out.2.1, ⟨H2.out.2.2.os, H2.out.2.2.tape, H2.out.2.2.output, H2.out.2.2.size, H2.out.2.2.block⟩⟩
      obtain ⟨wb, hwb⟩ : ∃ wb, w2.drew = wb := ⟨_, rfl⟩
      rw [hwb] at Hb hHeld ⊢
      clear hwb r0
      refine wpAnyH_ready (rs := [4, 6]) (by kernel_rfl) (by simp) (AllReadyH.cons rfl (fun K hK => ?_) (AllReadyH.cons rfl (fun K hK => ?_) AllReadyH.nil))
      · have cl : wb.cell? ⟨j, 3, none⟩ = some (.int .i64 ((G : Int) + 1)) := Hb.out.1.cell 3
        try simp only [List.getElem_toArray, List.getElem_cons_zero, List.getElem_cons_succ]
        go_simp
        refine hK.out _ _ hHeld (fun hHeld => ?_)
        clear hK K
        try simp only [Act.put, List.getElem_toArray, List.getElem_cons_zero, List.getElem_cons_succ, List.setIfInBounds_toArray, List.set_cons_zero, List.set_cons_succ]
        clear cl
        refine wpAnyH_ready (rs := [6]) (by kernel_rfl) (by simp) (AllReadyH.cons rfl (fun K hK => ?_) AllReadyH.nil)
        try simp only [List.getElem_toArray, List.getElem_cons_zero, List.getElem_cons_succ]
        go_simp
        refine (rlife_any (b := b) (o := 0) (kb_nums HBK.out) (by omega)).mono ?_
        rintro e w3 ⟨rfl, hbx⟩
        have hx' : lfa b 0 = x := HXY.out.1
        rw [hx']
        clear hx'
        have H3 := Lib.hid (And.intro (Hb.out.1.below hbx Hb.out.1.lt) (And.intro (Hb.out.2.1.below hbx Hb.out.2.1.lt) (Hb.out.2.2.trans (hbx.mono (by rw [← HJ.out]; exact Hb.out.2.2.size)))))
        clear hbx hHeld
        have hHeld := whole_range H3.out.2.1
        go_wp2_with fail
        refine hK.out _ _ hHeld (fun hHeld => ?_)
        clear hK K
        try simp only [Act.put, List.getElem_toArray, List.getElem_cons_zero, List.getElem_cons_succ, List.setIfInBounds_toArray, List.set_cons_zero, List.set_cons_succ]
        refine wpAnyH_take (i := 7) (v := .int .i64 ((x : Int) + 1)) rfl (by kernel_rfl) (by kernel_rfl) (by kernel_rfl) (fun _ _ _ h => h) (Or.inl ⟨by rfl, (by intro w hSw; (try dsimp only at hSw); go_simp)⟩) (by assumption) ?_
        try simp only [Act.put, List.getElem_toArray, List.getElem_cons_zero, List.getElem_cons_succ, List.setIfInBounds_toArray, List.set_cons_zero, List.set_cons_succ]
        refine wpAnyH_ready (rs := [9]) (by kernel_rfl) (by simp) (AllReadyH.cons rfl (fun K hK => ?_) AllReadyH.nil)
        try simp only [List.getElem_toArray, List.getElem_cons_zero, List.getElem_cons_succ]
        go_simp
        refine (rlife_any (b := b) (o := 56) (kb_nums HBK.out) (by omega)).mono ?_
        rintro e w4 ⟨rfl, hbx⟩
        have hx' : lfa b 56 = y := HXY.out.2
        rw [hx']
        clear hx'
        have H4 := Lib.hid (And.intro (H3.out.1.below hbx H3.out.1.lt) (And.intro (H3.out.2.1.below hbx H3.out.2.1.lt) (H3.out.2.2.trans (hbx.mono (by rw [← HJ.out]; exact H3.out.2.2.size)))))
        clear hbx hHeld
        have hHeld := whole_range H4.out.2.1
        go_wp2_with fail
        refine hK.out _ _ hHeld (fun hHeld => ?_)
        clear hK K
        try simp only [Act.put, List.getElem_toArray, List.getElem_cons_zero, List.getElem_cons_succ, List.setIfInBounds_toArray, List.set_cons_zero, List.set_cons_succ]
        refine wpAnyH_take (i := 10) (v := .int .i64 ((y : Int) + 1)) rfl (by kernel_rfl) (by kernel_rfl) (by kernel_rfl) (fun _ _ _ h => h) (Or.inl ⟨by rfl, (by intro w hSw; (try dsimp only at hSw); go_simp)⟩) (by assumption) ?_
        try simp only [Act.put, List.getElem_toArray, List.getElem_cons_zero, List.getElem_cons_succ, List.setIfInBounds_toArray, List.set_cons_zero, List.set_cons_succ]
        obtain ⟨M, HM⟩ : ∃ M, Hid (max G (max x y) = M) := ⟨_, Lib.hid rfl⟩
        refine wpAnyH_take (i := 11) (v := .int .i64 ((M : Int) + 1)) rfl (by kernel_rfl) (by kernel_rfl) (by kernel_rfl) (fun _ _ _ h => h) (Or.inl ⟨by rfl, (by intro w hSw; (try dsimp only at hSw); go_simp; rw [← HM.out]; (repeat' split) <;> omega)⟩) (by assumption) ?_
        try simp only [Act.put, List.getElem_toArray, List.getElem_cons_zero, List.getElem_cons_succ, List.setIfInBounds_toArray, List.set_cons_zero, List.set_cons_succ]
        refine wpAnyH_take (i := 12) (v := .pointer (some ⟨j, 0, none⟩)) rfl (by kernel_rfl) (by kernel_rfl) (by kernel_rfl) (fun _ _ _ h => h) (Or.inl ⟨by rfl, (by intro w hSw; (try dsimp only at hSw); go_simp)⟩) (by assumption) ?_
        try simp only [Act.put, List.getElem_toArray, List.getElem_cons_zero, List.getElem_cons_succ, List.setIfInBounds_toArray, List.set_cons_zero, List.set_cons_succ]
        refine wpAnyH_take (i := 13) (v := .pointer (some ⟨j, 3, none⟩)) rfl (by kernel_rfl) (by kernel_rfl) (by kernel_rfl) (fun _ _ _ h => h) (Or.inl ⟨by rfl, (by intro w hSw; (try dsimp only at hSw); go_simp)⟩) (by assumption) ?_
        try simp only [Act.put, List.getElem_toArray, List.getElem_cons_zero, List.getElem_cons_succ, List.setIfInBounds_toArray, List.set_cons_zero, List.set_cons_succ]
        have H5 : Hid (Whole (w4.setCell ⟨j, 3, none⟩ (.int .i64 ((M : Int) + 1))) j 51 #[.pointer (some ⟨r, 0, none⟩), .int .i64 (fr : Int), .int .i64 (m : Int), .int .i64 ((M + 1 : Nat) : Int), .int .i64 0, .slice none 0 0] ∧ Below j w (w4.setCell ⟨j, 3, none⟩ (.int .i64 ((M : Int) + 1)))) := Lib.hid ⟨H4.out.1.set 3 _, H4.out.2.2.trans ((only_set w4 j 3 _).below (by rw [← HJ.out]; exact H4.out.2.2.size) (fun q hq => by simp at hq; omega))⟩
        have hfar : (w4.setCell ⟨j, 3, none⟩ (.int .i64 ((M : Int) + 1))).rangeAt wr.heap.size 0 (nums b) := whole_range (H4.out.2.1.far (fun e => by have h1 := H4.out.1; have h2 := H4.out.2.1; unfold Whole at h1 h2; rw [e] at h2; have h3 := h1.symm.trans h2; injection h3 with h4; injection h4 with _ h5; exact absurd h5 (by decide)) _)
        have HM3 : Hid (grt ((bsOf a fr m).take (k + 1)) = M) := Lib.hid (HM2.out.trans HM.out)
        have c4 : w4.cell? ⟨j, 3, none⟩ = some (.int .i64 ((G : Int) + 1)) := H4.out.1.cell 3
        have f4 := H4.out.1.frozen 3
        clear hHeld
        refine wpAnyH_ready (rs := [14]) (by kernel_rfl) (by simp) (AllReadyH.cons rfl (fun K hK => ?_) AllReadyH.nil)
        try simp only [List.getElem_toArray, List.getElem_cons_zero, List.getElem_cons_succ]
        go_simp
        refine hK.out _ _ hfar (fun hHeld => ?_)
        clear hK K hHeld hfar c4 f4
        try simp only [Act.put, List.getElem_toArray, List.getElem_cons_zero, List.getElem_cons_succ, List.setIfInBounds_toArray, List.set_cons_zero, List.set_cons_succ]
        refine wpAnyH_done (by kernel_rfl) ?_ _
        go_wp2
        go_roundw
        case rel => exact ⟨k + 1, by omega, by go_num, Lib.hid ⟨by rw [HM3.out]; exact H5.out.1, H5.out.2⟩⟩
        case measure => simp [intOf]; omega
      · try simp only [List.getElem_toArray, List.getElem_cons_zero, List.getElem_cons_succ]
        go_simp
        refine (rlife_any (b := b) (o := 0) (kb_nums HBK.out) (by omega)).mono ?_
        rintro e w3 ⟨rfl, hbx⟩
        have hx' : lfa b 0 = x := HXY.out.1
        rw [hx']
        clear hx'
        have H3 := Lib.hid (And.intro (Hb.out.1.below hbx Hb.out.1.lt) (And.intro (Hb.out.2.1.below hbx Hb.out.2.1.lt) (Hb.out.2.2.trans (hbx.mono (by rw [← HJ.out]; exact Hb.out.2.2.size)))))
        clear hbx hHeld
        have hHeld := whole_range H3.out.2.1
        go_wp2_with fail
        refine hK.out _ _ hHeld (fun hHeld => ?_)
        clear hK K
        try simp only [Act.put, List.getElem_toArray, List.getElem_cons_zero, List.getElem_cons_succ, List.setIfInBounds_toArray, List.set_cons_zero, List.set_cons_succ]
        refine wpAnyH_take (i := 7) (v := .int .i64 ((x : Int) + 1)) rfl (by kernel_rfl) (by kernel_rfl) (by kernel_rfl) (fun _ _ _ h => h) (Or.inl ⟨by rfl, (by intro w hSw; (try dsimp only at hSw); go_simp)⟩) (by assumption) ?_
        try simp only [Act.put, List.getElem_toArray, List.getElem_cons_zero, List.getElem_cons_succ, List.setIfInBounds_toArray, List.set_cons_zero, List.set_cons_succ]
        refine wpAnyH_ready (rs := [4, 9]) (by kernel_rfl) (by simp) (AllReadyH.cons rfl (fun K hK => ?_) (AllReadyH.cons rfl (fun K hK => ?_) AllReadyH.nil))
        · have cl : w3.cell? ⟨j, 3, none⟩ = some (.int .i64 ((G : Int) + 1)) := H3.out.1.cell 3
          try simp only [List.getElem_toArray, List.getElem_cons_zero, List.getElem_cons_succ]
          go_simp
          refine hK.out _ _ hHeld (fun hHeld => ?_)
          clear hK K
          try simp only [Act.put, List.getElem_toArray, List.getElem_cons_zero, List.getElem_cons_succ, List.setIfInBounds_toArray, List.set_cons_zero, List.set_cons_succ]
          clear cl
          refine wpAnyH_ready (rs := [9]) (by kernel_rfl) (by simp) (AllReadyH.cons rfl (fun K hK => ?_) AllReadyH.nil)
          try simp only [List.getElem_toArray, List.getElem_cons_zero, List.getElem_cons_succ]
          go_simp
          refine (rlife_any (b := b) (o := 56) (kb_nums HBK.out) (by omega)).mono ?_
          rintro e w4 ⟨rfl, hbx⟩
          have hx' : lfa b 56 = y := HXY.out.2
          rw [hx']
          clear hx'
          have H4 := Lib.hid (And.intro (H3.out.1.below hbx H3.out.1.lt) (And.intro (H3.out.2.1.below hbx H3.out.2.1.lt) (H3.out.2.2.trans (hbx.mono (by rw [← HJ.out]; exact H3.out.2.2.size)))))
          clear hbx hHeld
          have hHeld := whole_range H4.out.2.1
          go_wp2_with fail
          refine hK.out _ _ hHeld (fun hHeld => ?_)
          clear hK K
          try simp only [Act.put, List.getElem_toArray, List.getElem_cons_zero, List.getElem_cons_succ, List.setIfInBounds_toArray, List.set_cons_zero, List.set_cons_succ]
          refine wpAnyH_take (i := 10) (v := .int .i64 ((y : Int) + 1)) rfl (by kernel_rfl) (by kernel_rfl) (by kernel_rfl) (fun _ _ _ h => h) (Or.inl ⟨by rfl, (by intro w hSw; (try dsimp only at hSw); go_simp)⟩) (by assumption) ?_
          try simp only [Act.put, List.getElem_toArray, List.getElem_cons_zero, List.getElem_cons_succ, List.setIfInBounds_toArray, List.set_cons_zero, List.set_cons_succ]
          obtain ⟨M, HM⟩ : ∃ M, Hid (max G (max x y) = M) := ⟨_, Lib.hid rfl⟩
          refine wpAnyH_take (i := 11) (v := .int .i64 ((M : Int) + 1)) rfl (by kernel_rfl) (by kernel_rfl) (by kernel_rfl) (fun _ _ _ h => h) (Or.inl ⟨by rfl, (by intro w hSw; (try dsimp only at hSw); go_simp; rw [← HM.out]; (repeat' split) <;> omega)⟩) (by assumption) ?_
          try simp only [Act.put, List.getElem_toArray, List.getElem_cons_zero, List.getElem_cons_succ, List.setIfInBounds_toArray, List.set_cons_zero, List.set_cons_succ]
          refine wpAnyH_take (i := 12) (v := .pointer (some ⟨j, 0, none⟩)) rfl (by kernel_rfl) (by kernel_rfl) (by kernel_rfl) (fun _ _ _ h => h) (Or.inl ⟨by rfl, (by intro w hSw; (try dsimp only at hSw); go_simp)⟩) (by assumption) ?_
          try simp only [Act.put, List.getElem_toArray, List.getElem_cons_zero, List.getElem_cons_succ, List.setIfInBounds_toArray, List.set_cons_zero, List.set_cons_succ]
          refine wpAnyH_take (i := 13) (v := .pointer (some ⟨j, 3, none⟩)) rfl (by kernel_rfl) (by kernel_rfl) (by kernel_rfl) (fun _ _ _ h => h) (Or.inl ⟨by rfl, (by intro w hSw; (try dsimp only at hSw); go_simp)⟩) (by assumption) ?_
          try simp only [Act.put, List.getElem_toArray, List.getElem_cons_zero, List.getElem_cons_succ, List.setIfInBounds_toArray, List.set_cons_zero, List.set_cons_succ]
          have H5 : Hid (Whole (w4.setCell ⟨j, 3, none⟩ (.int .i64 ((M : Int) + 1))) j 51 #[.pointer (some ⟨r, 0, none⟩), .int .i64 (fr : Int), .int .i64 (m : Int), .int .i64 ((M + 1 : Nat) : Int), .int .i64 0, .slice none 0 0] ∧ Below j w (w4.setCell ⟨j, 3, none⟩ (.int .i64 ((M : Int) + 1)))) := Lib.hid ⟨H4.out.1.set 3 _, H4.out.2.2.trans ((only_set w4 j 3 _).below (by rw [← HJ.out]; exact H4.out.2.2.size) (fun q hq => by simp at hq; omega))⟩
          have hfar : (w4.setCell ⟨j, 3, none⟩ (.int .i64 ((M : Int) + 1))).rangeAt wr.heap.size 0 (nums b) := whole_range (H4.out.2.1.far (fun e => by have h1 := H4.out.1; have h2 := H4.out.2.1; unfold Whole at h1 h2; rw [e] at h2; have h3 := h1.symm.trans h2; injection h3 with h4; injection h4 with _ h5; exact absurd h5 (by decide)) _)
          have HM3 : Hid (grt ((bsOf a fr m).take (k + 1)) = M) := Lib.hid (HM2.out.trans HM.out)
          have c4 : w4.cell? ⟨j, 3, none⟩ = some (.int .i64 ((G : Int) + 1)) := H4.out.1.cell 3
          have f4 := H4.out.1.frozen 3
          clear hHeld
          refine wpAnyH_ready (rs := [14]) (by kernel_rfl) (by simp) (AllReadyH.cons rfl (fun K hK => ?_) AllReadyH.nil)
          try simp only [List.getElem_toArray, List.getElem_cons_zero, List.getElem_cons_succ]
          go_simp
          refine hK.out _ _ hfar (fun hHeld => ?_)
          clear hK K hHeld hfar c4 f4
          try simp only [Act.put, List.getElem_toArray, List.getElem_cons_zero, List.getElem_cons_succ, List.setIfInBounds_toArray, List.set_cons_zero, List.set_cons_succ]
          refine wpAnyH_done (by kernel_rfl) ?_ _
          go_wp2
          go_roundw
          case rel => exact ⟨k + 1, by omega, by go_num, Lib.hid ⟨by rw [HM3.out]; exact H5.out.1, H5.out.2⟩⟩
          case measure => simp [intOf]; omega
        · try simp only [List.getElem_toArray, List.getElem_cons_zero, List.getElem_cons_succ]
          go_simp
          refine (rlife_any (b := b) (o := 56) (kb_nums HBK.out) (by omega)).mono ?_
          rintro e w4 ⟨rfl, hbx⟩
          have hx' : lfa b 56 = y := HXY.out.2
          rw [hx']
          clear hx'
          have H4 := Lib.hid (And.intro (H3.out.1.below hbx H3.out.1.lt) (And.intro (H3.out.2.1.below hbx H3.out.2.1.lt) (H3.out.2.2.trans (hbx.mono (by rw [← HJ.out]; exact H3.out.2.2.size)))))
          clear hbx hHeld
          have hHeld := whole_range H4.out.2.1
          go_wp2_with fail
          refine hK.out _ _ hHeld (fun hHeld => ?_)
          clear hK K
          try simp only [Act.put, List.getElem_toArray, List.getElem_cons_zero, List.getElem_cons_succ, List.setIfInBounds_toArray, List.set_cons_zero, List.set_cons_succ]
          refine wpAnyH_take (i := 10) (v := .int .i64 ((y : Int) + 1)) rfl (by kernel_rfl) (by kernel_rfl) (by kernel_rfl) (fun _ _ _ h => h) (Or.inl ⟨by rfl, (by intro w hSw; (try dsimp only at hSw); go_simp)⟩) (by assumption) ?_
          try simp only [Act.put, List.getElem_toArray, List.getElem_cons_zero, List.getElem_cons_succ, List.setIfInBounds_toArray, List.set_cons_zero, List.set_cons_succ]
          refine wpAnyH_ready (rs := [4]) (by kernel_rfl) (by simp) (AllReadyH.cons rfl (fun K hK => ?_) AllReadyH.nil)
          have cl : w4.cell? ⟨j, 3, none⟩ = some (.int .i64 ((G : Int) + 1)) := H4.out.1.cell 3
          try simp only [List.getElem_toArray, List.getElem_cons_zero, List.getElem_cons_succ]
          go_simp
          refine hK.out _ _ hHeld (fun hHeld => ?_)
          clear hK K
          try simp only [Act.put, List.getElem_toArray, List.getElem_cons_zero, List.getElem_cons_succ, List.setIfInBounds_toArray, List.set_cons_zero, List.set_cons_succ]
          clear cl
          obtain ⟨M, HM⟩ : ∃ M, Hid (max G (max x y) = M) := ⟨_, Lib.hid rfl⟩
          refine wpAnyH_take (i := 11) (v := .int .i64 ((M : Int) + 1)) rfl (by kernel_rfl) (by kernel_rfl) (by kernel_rfl) (fun _ _ _ h => h) (Or.inl ⟨by rfl, (by intro w hSw; (try dsimp only at hSw); go_simp; rw [← HM.out]; (repeat' split) <;> omega)⟩) (by assumption) ?_
          try simp only [Act.put, List.getElem_toArray, List.getElem_cons_zero, List.getElem_cons_succ, List.setIfInBounds_toArray, List.set_cons_zero, List.set_cons_succ]
          refine wpAnyH_take (i := 12) (v := .pointer (some ⟨j, 0, none⟩)) rfl (by kernel_rfl) (by kernel_rfl) (by kernel_rfl) (fun _ _ _ h => h) (Or.inl ⟨by rfl, (by intro w hSw; (try dsimp only at hSw); go_simp)⟩) (by assumption) ?_
          try simp only [Act.put, List.getElem_toArray, List.getElem_cons_zero, List.getElem_cons_succ, List.setIfInBounds_toArray, List.set_cons_zero, List.set_cons_succ]
          refine wpAnyH_take (i := 13) (v := .pointer (some ⟨j, 3, none⟩)) rfl (by kernel_rfl) (by kernel_rfl) (by kernel_rfl) (fun _ _ _ h => h) (Or.inl ⟨by rfl, (by intro w hSw; (try dsimp only at hSw); go_simp)⟩) (by assumption) ?_
          try simp only [Act.put, List.getElem_toArray, List.getElem_cons_zero, List.getElem_cons_succ, List.setIfInBounds_toArray, List.set_cons_zero, List.set_cons_succ]
          have H5 : Hid (Whole (w4.setCell ⟨j, 3, none⟩ (.int .i64 ((M : Int) + 1))) j 51 #[.pointer (some ⟨r, 0, none⟩), .int .i64 (fr : Int), .int .i64 (m : Int), .int .i64 ((M + 1 : Nat) : Int), .int .i64 0, .slice none 0 0] ∧ Below j w (w4.setCell ⟨j, 3, none⟩ (.int .i64 ((M : Int) + 1)))) := Lib.hid ⟨H4.out.1.set 3 _, H4.out.2.2.trans ((only_set w4 j 3 _).below (by rw [← HJ.out]; exact H4.out.2.2.size) (fun q hq => by simp at hq; omega))⟩
          have hfar : (w4.setCell ⟨j, 3, none⟩ (.int .i64 ((M : Int) + 1))).rangeAt wr.heap.size 0 (nums b) := whole_range (H4.out.2.1.far (fun e => by have h1 := H4.out.1; have h2 := H4.out.2.1; unfold Whole at h1 h2; rw [e] at h2; have h3 := h1.symm.trans h2; injection h3 with h4; injection h4 with _ h5; exact absurd h5 (by decide)) _)
          have HM3 : Hid (grt ((bsOf a fr m).take (k + 1)) = M) := Lib.hid (HM2.out.trans HM.out)
          have c4 : w4.cell? ⟨j, 3, none⟩ = some (.int .i64 ((G : Int) + 1)) := H4.out.1.cell 3
          have f4 := H4.out.1.frozen 3
          clear hHeld
          refine wpAnyH_ready (rs := [14]) (by kernel_rfl) (by simp) (AllReadyH.cons rfl (fun K hK => ?_) AllReadyH.nil)
          try simp only [List.getElem_toArray, List.getElem_cons_zero, List.getElem_cons_succ]
          go_simp
          refine hK.out _ _ hfar (fun hHeld => ?_)
          clear hK K hHeld hfar c4 f4
          try simp only [Act.put, List.getElem_toArray, List.getElem_cons_zero, List.getElem_cons_succ, List.setIfInBounds_toArray, List.set_cons_zero, List.set_cons_succ]
          refine wpAnyH_done (by kernel_rfl) ?_ _
          go_wp2
          go_roundw
          case rel => exact ⟨k + 1, by omega, by go_num, Lib.hid ⟨by rw [HM3.out]; exact H5.out.1, H5.out.2⟩⟩
          case measure => simp [intOf]; omega
    · obtain rfl : m = k := by omega
      have q1 : ¬ (m : Int) < (m : Int) := by omega
      obtain ⟨G, hGe⟩ : ∃ G, grt (bsOf a fr m) = G := ⟨_, rfl⟩
      have H2 : Hid (Jl.thru ((bsOf a fr m).take (J0 1).pos) (J0 1) = some (J0 1) ∧ Rin w wr j r fr m (G + 1) (.slice none 0 0) (J0 1)) := Lib.hid ⟨rfl, ⟨Nat.zero_le _, Nat.zero_le _, wr, _, by
        have := HX.out.1
        rw [List.take_of_length_le (by rw [HB.out.2]; exact Nat.le_refl _), hGe] at this
        exact this, Recs.nil _ _, RowU.nil _ _, Below.refl _ _, HX.out.2⟩⟩
      have HG := Lib.hid hGe
      clear HX hGe
      go_wp2
      go_loopw [11, 12, 13] (fun vR vL vI wr => ∃ s : Jl.S, s.pos ≤ m ∧ s.least ≤ 1099511627776 ∧ vI = .int .i64 (s.pos : Int) ∧ vL = .int .i64 (s.least : Int) ∧ Hid (Jl.thru ((bsOf a fr m).take s.pos) (J0 1) = some s ∧ Rin w wr j r fr m (G + 1) vR s)) (fun _ _ vI _ => m - (intOf vI).toNat)
      case atStart => exact ⟨J0 1, Nat.zero_le _, by show 1 ≤ _; omega, rfl, rfl, H2⟩
      case round =>
        clear H2
        obtain ⟨s, hn, hls, rfl, rfl, H3⟩ := hrel
        obtain ⟨P, hP⟩ : ∃ P, s.pos = P := ⟨_, rfl⟩
        obtain ⟨Ls, hLs⟩ : ∃ Ls, s.least = Ls := ⟨_, rfl⟩
        rw [hP] at hn ⊢
        rw [hLs] at hls ⊢
        have HP := Lib.hid (And.intro hP hLs)
        clear hP hLs
        obtain ⟨wo, v, ho1, ho2, ho3, ho4, ho5⟩ := H3.out.2.mem
        have hjo : j < wo.heap.size := ho1.lt
        obtain ⟨ra, rc, rfl, hrc, hrt⟩ := ho3.form
        have hPl := H3.out.2.part
        have hmany := H3.out.2.many
        rw [HP.out.1] at hPl hmany
        obtain ⟨pl, hpl⟩ : ∃ pl, s.part.length = pl := ⟨_, rfl⟩
        have HO := Lib.hid (And.intro ho1 (And.intro ho2 (And.intro ho3 (And.intro ho4 (And.intro ho5 (And.intro hpl hmany))))))
        rw [hpl] at hPl ⊢
        clear ho1 ho2 ho3 ho4 ho5 hpl hrc hrt hmany
        have hbw : Below j w wr := HO.out.2.2.2.2.1.trans (HO.out.2.2.2.1.mono (by omega))
        have HBW := Lib.hid hbw
        clear hbw
        by_cases hlt2 : P < m
        · have q2 : (P : Int) < (m : Int) := by omega
          obtain ⟨b, hb⟩ : ∃ b, Dm.read a (fr + P) = b := ⟨_, rfl⟩
          have hrk := H.out.below (by have := HBW.out; rw [← HJ.out] at this; exact this)
          have hbk : Blk b := by rw [← hb]; exact Dm.read_len H.out.ok (by omega)
          have c1 := hrk.c1
          obtain ⟨nb, nc, hvN, hnl, hrow⟩ := hrk.row (k := fr + P) (by omega)
          injection hvN with hvN1 _ hvN2
          subst hvN1 hvN2
          have hrg : wr.rangeAt nb ((fr + P) * 64) (nums b) := by rw [← hb]; exact hrow _ (by omega)
          have hget : (bsOf a fr m).getD P [] = b := by rw [List.getD_eq_getElem?_getD, bsOf_get, if_pos hlt2]; exact hb
          have HN := Lib.hid (And.intro hbk (And.intro hrg hget))
          clear hb hbk hrg hget hnl hrow hrk
          go_wp2_with (first | ((with_reducible show wpList _ _ _ ((⟨_, Op.load 45 _, _, _, _, _⟩ : Oper) :: _) _ _); refine wpList_load_mid rfl 45 (.tmp 97) rfl nb ((fr + P) * 64) rfl (nums b) _ HN.out.2.1 und_b rfl (info_bm HN.out.1.1) ?_) | fail)
          refine (rpiece_any (b := b) (kb_nums HN.out.1) (by omega)).mono ?_
          rintro e w3 ⟨pv, pl2, rfl, hb3, hgd⟩
          have hpg : pgood (lfa b 0) (lfa b 56) Ls (Jl.cnt b) (Jl.byt b 10) (Jl.byt b 11) (decide (0 < pl)) ↔ Jl.good s b := by
            rw [← HP.out.2]
            refine pgood_is s b _ ?_
            rw [decide_eq_true_eq, ← HO.out.2.2.2.2.2.1]
            exact List.length_pos_iff
          by_cases hg : Jl.good s b
          · rw [decide_eq_true (hpg.2 hg)] at hgd ⊢
            obtain ⟨hl2, hpv⟩ := hgd rfl
            subst hl2
            have H4 := Lib.hid (And.intro hb3 hpv)
            have HGD := Lib.hid hg
            have hth := thru_step H3.out.1 (by rw [HP.out.1, HB.out.2]; exact hlt2) (by rw [HP.out.1, HN.out.2.2]; exact hg)
            rw [HP.out.1, HN.out.2.2] at hth
            have hbw3 := HBW.out.trans (hb3.mono (by rw [← HJ.out]; exact HBW.out.size))
            have hrk := H.out.below (by have := hbw3; rw [← HJ.out] at this; exact this)
            obtain ⟨nb3, nc3, hvN, hnl, hrow⟩ := hrk.row (k := fr + P) (by omega)
            injection hvN with hvN1 _ hvN2
            injection hvN1 with hvN3
            injection hvN3 with hvN4
            subst hvN4 hvN2
            have hrb : Dm.read a (fr + P) = b := by have := HN.out.2.2; rw [List.getD_eq_getElem?_getD, bsOf_get, if_pos hlt2] at this; exact this
            have hrg3 : w3.rangeAt nb ((fr + P) * 64) (nums b) := by rw [← hrb]; exact hrow _ (by omega)
            have c13 := hrk.c1
            have HTH := Lib.hid (And.intro hth (And.intro hbw3 hrg3))
            clear hth hbw3 hrk hnl hrow hrb hrg3 hb3 hpv hgd hpg hg c1
            go_wp2_with (first | ((with_reducible show wpList _ _ _ ((⟨_, Op.load 45 _, _, _, _, _⟩ : Oper) :: _) _ _); refine wpList_load_mid rfl 45 (.tmp 117) rfl nb ((fr + P) * 64) rfl (nums b) _ HTH.out.2.2 und_b rfl (info_bm HN.out.1.1) ?_) | fail)
            refine (rlife_any (b := b) (o := 0) (kb_nums HN.out.1) (by omega)).mono ?_
            rintro e w4 ⟨rfl, hb4⟩
            have hlf : lfa b 0 = (Jl.step s b).least := by rw [(step_pos s b).2, lfa_lf]
            have hle : (Jl.step s b).least ≤ 1099511627776 := by rw [← hlf]; exact cap_le _
            obtain ⟨Ln, hLn⟩ : ∃ Ln, (Jl.step s b).least = Ln := ⟨_, rfl⟩
            rw [hlf, hLn]
            rw [hLn] at hle
            have HLN := Lib.hid hLn
            have hpv4 := H4.out.2.below hb4
            obtain ⟨pa, pc, rfl, hpc, hptx⟩ := hpv4.form
            have hb34 := H4.out.1.trans (hb4.mono H4.out.1.size)
            have hwo4 := HO.out.2.2.2.1.trans (hb34.mono HO.out.2.2.2.1.size)
            have hrow4 : RowU w4 wo.heap.size (.slice ra s.part.length rc) s.part := HO.out.2.2.1.below hb34
            have hbl : (Jl.body b).length ≤ 44 := by unfold Jl.body; rw [List.length_take]; have := HGD.out.2.2.2.2.1; omega
            obtain ⟨cb, hcb⟩ : ∃ cb, (Jl.body b).length = cb := ⟨_, rfl⟩
            rw [hcb] at hbl
            have hro : w4.ownsRow wo.heap.size 5 1 (.slice ra pl rc) pl (nums s.part) := by have := hrow4.1; rw [HO.out.2.2.2.2.2.1] at this; exact this
            have hbj : Below j w w4 := HTH.out.2.1.trans (hb4.mono (by rw [← HJ.out]; exact HTH.out.2.1.size))
            rw [hcb] at hptx ⊢
            have H5 := Lib.hid (And.intro hro (And.intro hptx (And.intro hwo4 (And.intro hrow4 (And.intro hcb hbj)))))
            have hws : wo.heap.size ≤ w4.heap.size := hwo4.size
            clear hlf hLn hpv4 hpc hptx hb34 hwo4 hrow4 hcb hro hbj hb4 c13
            obtain ⟨iu, hu1, hu2, hu3, hu4⟩ := info_parts u8_info
            have HU := Lib.hid (And.intro hu1 (And.intro hu2 (And.intro hu3 hu4)))
            clear hu1 hu2 hu3 hu4
            go_upto_region 21 with (first | (at_builtin; refine wpList_append_txt w4 rfl (.tmp 120) (.tmp 121) 37 rfl wo.heap.size 5 iu (.int .u8 0) 1 Try.underlying37 HU.out.1 HU.out.2.1 HU.out.2.2.1 HU.out.2.2.2 rfl _ pl (nums s.part) rfl H5.out.1 (wr.heap.size ≤ ·) pa cb pc (Jl.body b) rfl H5.out.2.1 (by unfold maxLen; omega) (by omega) hws ?_; intro v6 w6 ho6 hg6 hf6) | fail)
            have r6 : RowU w6 wo.heap.size v6 (s.part ++ Jl.body b) := H5.out.2.2.2.1.app (by rw [HO.out.2.2.2.2.2.1]; exact ho6) H5.out.2.2.2.2.1 H5.out.2.1.2.2.1
            have b6 := below_own H5.out.2.2.1 hws hg6 (fun q hq => (row_block H5.out.1 hq).choose_spec.1)
            have bj6 : Below j w w6 := HO.out.2.2.2.2.1.trans (b6.mono (by omega))
            have H6 := Lib.hid (And.intro r6 (And.intro b6 bj6))
            clear ho6 hg6 hf6 r6 b6 bj6 hws
            by_cases hla : Jl.byt b 10 = 1
            · rw [decide_eq_true hla]
              have HS : Hid (Jl.step s b = ⟨Ln, [], s.recs ++ [s.part ++ Jl.body b], P + 1, P + 1⟩) := Lib.hid (by
                have e1 := HLN.out
                rw [(step_pos s b).2] at e1
                unfold Jl.step
                rw [if_pos hla, e1, HP.out.1])
              clear hla
              have HT2 : Hid (Jl.thru ((bsOf a fr m).take (Jl.step s b).pos) (J0 1) = some (Jl.step s b)) := Lib.hid (by
                have e : (Jl.step s b).pos = P + 1 := by rw [HS.out]
                rw [e]
                exact HTH.out.1)
              obtain ⟨rr, hrr⟩ : ∃ rr, s.part ++ Jl.body b = rr := ⟨_, rfl⟩
              rw [hrr] at H6 HS
              clear hrr
              obtain ⟨a6, p6, rfl, _, _⟩ := H6.out.1.form
              obtain ⟨l6, hl6⟩ : ∃ l6, rr.length = l6 := ⟨_, rfl⟩
              obtain ⟨q, cp, rfl⟩ := HO.out.2.1.form
              obtain ⟨N0, hN0⟩ : ∃ N0, s.recs.length = N0 := ⟨_, rfl⟩
              have hj6 := HO.out.1.below H6.out.2.1 hjo
              obtain ⟨w7, hw7⟩ : ∃ w7, w6.alloc (.cells #[.slice a6 rr.length p6] 37) = w7 := ⟨_, rfl⟩
              have hb7 : Below w6.heap.size w6 w7 := by rw [← hw7]; exact below_alloc _ _
              obtain ⟨vs, hv1, hv2⟩ := (HO.out.2.1.below H6.out.2.1).below hb7
              have hr7 : RowU w7 j (.slice a6 rr.length p6) rr := (H6.out.1.below hb7).base (by omega)
              have hw7' : Whole w7 w6.heap.size 37 #[.slice a6 rr.length p6] := by rw [← hw7]; exact Whole.new _ _ _
              have hj7 := hj6.below hb7 hj6.lt
              have c5 : w6.cell? ⟨j, 5, none⟩ = some (.slice q s.recs.length cp) := hj6.cell 5
              have hbj7 := H6.out.2.2.trans (hb7.mono (by rw [← HJ.out]; exact H6.out.2.2.size))
              have hN0l : N0 ≤ P := by have := HO.out.2.2.2.2.2.2; omega
              rw [hl6] at hr7 hw7' hw7 ⊢
              rw [hN0] at hv1 c5 hj7
              have hbz : j ≤ w7.heap.size := by have := hbj7.size; have := HJ.out; omega
              have H7 := Lib.hid (And.intro hv1 (And.intro hv2 (And.intro hr7 (And.intro hw7' (And.intro hj7 (And.intro hbj7 hN0))))))
              have HW7 := Lib.hid hw7
              clear hj6 hb7 hv1 hv2 hr7 hw7' hj7 hbj7 hN0 hl6 hw7
              have hjne : some j ≠ (Value.slice q N0 cp).ownBlock := fun e => by
                obtain ⟨cur, _, h2⟩ := row_block H7.out.1 e.symm
                have h1 := H7.out.2.2.2.2.1
                unfold Whole at h1
                rw [h1] at h2
                injection h2 with h4
                injection h4 with _ h5
                exact absurd h5 (by decide)
              have HNE := Lib.hid hjne
              clear hjne
              go_upto_region 24 with (first | (at_builtin; rw [HW7.out]; refine wpList_append_one rfl (.tmp 128) (.tmp 130) 48 37 (.slice none 0 0) 24 rfl Try.underlying48 sl_info rfl (by omega) j (.slice q N0 cp) N0 vs rfl H7.out.1 w6.heap.size 37 (.slice a6 l6 p6) rfl H7.out.2.2.2.1 rfl (by omega) hbz ?_; intro v10 w10 ho10 hg10 _; obtain ⟨q10, p10, rfl⟩ := own_form ho10; have hj10 := H7.out.2.2.2.2.1.grown hg10 HNE.out; have c5' : w10.cell? ⟨j, 5, none⟩ = some (.slice q N0 cp) := hj10.cell 5; have f5' := hj10.frozen 5; have c4' : w10.cell? ⟨j, 4, none⟩ = some (.int .i64 (s.used : Int)) := hj10.cell 4; have f4' := hj10.frozen 4) | fail)
              have H8 : Hid (Whole ((w10.setCell ⟨j, 5, none⟩ (.slice q10 (N0 + 1) p10)).setCell ⟨j, 4, none⟩ (.int .i64 ((P : Int) + 1))) j 51 #[.pointer (some ⟨r, 0, none⟩), .int .i64 (fr : Int), .int .i64 (m : Int), .int .i64 ((G + 1 : Nat) : Int), .int .i64 ((P + 1 : Nat) : Int), .slice q10 (N0 + 1) p10] ∧ Recs ((w10.setCell ⟨j, 5, none⟩ (.slice q10 (N0 + 1) p10)).setCell ⟨j, 4, none⟩ (.int .i64 ((P : Int) + 1))) j (.slice q10 (N0 + 1) p10) (s.recs ++ [rr]) ∧ Below j w ((w10.setCell ⟨j, 5, none⟩ (.slice q10 (N0 + 1) p10)).setCell ⟨j, 4, none⟩ (.int .i64 ((P : Int) + 1)))) := Lib.hid (by
                have hw := (hj10.set 5 (.slice q10 (N0 + 1) p10)).set 4 (.int .i64 ((P : Int) + 1))
                have hown := H7.out.1
                have ho10' := ho10
                rw [← H7.out.2.2.2.2.2.2] at hown ho10'
                have hR := Recs.more H7.out.2.1 hown H7.out.2.2.1 ho10' (by rw [H7.out.2.2.2.2.2.2]; exact hg10)
                rw [H7.out.2.2.2.2.2.2] at hR
                have hset := (only_set w10 j 5 (.slice q10 (N0 + 1) p10)).trans (only_set _ j 4 (.int .i64 ((P : Int) + 1)))
                refine ⟨hw, hR.keep fun g cur t _ htt hc => hset.block g (Array.getElem?_eq_some_iff.1 hc).1 (fun e => by
                  simp at e
                  subst e
                  have h1 := hj10
                  unfold Whole at h1
                  rw [h1] at hc
                  injection hc with h3
                  injection h3 with _ h4
                  rcases htt with rfl | rfl <;> exact absurd h4 (by decide)), ?_⟩
                have hb10 := H7.out.2.2.2.2.2.1.grown hg10 hbz (fun k e => (row_block H7.out.1 e).choose_spec.1)
                exact hb10.trans (hset.below (by have := hb10.size; have := HJ.out; omega) (fun x hx => by simp at hx; omega)))
              clear ho10 hg10 hj10 c5' f5' c4' f4' c5
              go_wp2
              go_roundw
              case rel =>
                refine ⟨Jl.step s b, by rw [HS.out]; exact hlt2, by rw [HS.out]; exact hle, by rw [HS.out]; go_num, by rw [HS.out], Lib.hid ⟨HT2.out, ?_⟩⟩
                rw [HS.out]
                exact ⟨Nat.zero_le _, by show (s.recs ++ [rr]).length ≤ P + 1; rw [List.length_append, List.length_singleton, H7.out.2.2.2.2.2.2]; omega, _, _, H8.out.1, H8.out.2.1, RowU.nil _ _, Below.refl _ _, H8.out.2.2⟩
              case measure => simp [intOf]; omega
            · rw [decide_eq_false hla]
              have HS : Hid (Jl.step s b = ⟨Ln, s.part ++ Jl.body b, s.recs, s.used, P + 1⟩) := Lib.hid (by
                have e1 := HLN.out
                rw [(step_pos s b).2] at e1
                unfold Jl.step
                rw [if_neg hla, e1, HP.out.1])
              clear hla
              have HT2 : Hid (Jl.thru ((bsOf a fr m).take (Jl.step s b).pos) (J0 1) = some (Jl.step s b)) := Lib.hid (by
                have e : (Jl.step s b).pos = P + 1 := by rw [HS.out]
                rw [e]
                exact HTH.out.1)
              go_wp2
              go_roundw
              case rel =>
                refine ⟨Jl.step s b, by rw [HS.out]; exact hlt2, by rw [HS.out]; exact hle, by rw [HS.out]; go_num, by rw [HS.out], Lib.hid ⟨HT2.out, ?_⟩⟩
                rw [HS.out]
                exact ⟨by show (s.part ++ Jl.body b).length ≤ 44 * (P + 1); rw [List.length_append, HO.out.2.2.2.2.2.1, H5.out.2.2.2.2.1]; omega, by show s.recs.length ≤ P + 1; have := HO.out.2.2.2.2.2.2; omega, wo, v, HO.out.1, HO.out.2.1, H6.out.1, H6.out.2.1, HO.out.2.2.2.2.1⟩
              case measure => simp [intOf]; omega
          · rw [decide_eq_false (fun h => hg (hpg.1 h))]
            have HF : Hid ((Jl.go (bsOf a fr m) (J0 1)) = s ∧ Rj w3 j j r v fr m (G + 1) s.used s.recs ∧ Below j w w3) := Lib.hid (by
              have e := go_end H3.out.1 (Or.inr ⟨b, by rw [HP.out.1, ← HN.out.2.2, List.getD_eq_getElem?_getD, List.getElem?_eq_getElem (by rw [HB.out.2]; exact hlt2)]; rfl, hg⟩)
              have hx := HO.out.2.2.2.1.trans (hb3.mono HO.out.2.2.2.1.size)
              exact ⟨e, ⟨HO.out.1.below hx HO.out.1.lt, HO.out.2.1.below hx⟩, HBW.out.trans (hb3.mono (by rw [← HJ.out]; exact HBW.out.size))⟩)
            clear hb3 hgd hpg hg
            go_wp2
            go_ret2
            refine ⟨j, v, rfl, ?_, by rw [HJ.out]; exact Nat.le_refl _, by rw [HJ.out]; exact HF.out.2.2⟩
            rw [HF.out.1, HG.out, HJ.out]
            exact HF.out.2.1
        · obtain rfl : m = P := by omega
          have q2 : ¬ (m : Int) < (m : Int) := by omega
          have HF : Hid ((Jl.go (bsOf a fr m) (J0 1)) = s ∧ Rj wr j j r v fr m (G + 1) s.used s.recs) := Lib.hid (by
            have e := go_end H3.out.1 (Or.inl (by rw [HP.out.1, HB.out.2]; exact Nat.le_refl _))
            exact ⟨e, ⟨HO.out.1.below HO.out.2.2.2.1 HO.out.1.lt, HO.out.2.1.below HO.out.2.2.2.1⟩⟩)
          go_wp2
          go_ret2
          refine ⟨j, v, rfl, ?_, by rw [HJ.out]; exact Nat.le_refl _, by rw [HJ.out]; exact HBW.out⟩
          rw [HF.out.1, HG.out, HJ.out]
          exact HF.out.2
end Go.Proofs.Ytfecobkpdmjaeaa
