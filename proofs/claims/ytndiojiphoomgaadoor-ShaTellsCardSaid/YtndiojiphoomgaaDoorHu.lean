/-
  The walk of Tree. (Made by tools/gen_tree.py.)
-/
import Derived.Test.YtndiojiphoomgaaDoorHt
import Derived.Deep.DeepCutAuto
namespace Go.Proofs.YtndiojiphoomgaaDoor
open Go.RowKit
theorem row_size {d : List Int} (h : Dig d) : (nums d).toArray.size = 32 := by simp [nums_len, h.1]
theorem zs32_size : (nums (zs 32)).toArray.size = 32 := rfl
theorem txt_dig {w : World} {g : Nat} {d : List Int} (h : Whole w g 24 (nums d).toArray) (hd : Dig d) : Txt w (fun _ => True) (some ⟨g, 0, none⟩) 32 32 d := by
  have t := txt_of_whole (fun _ => True) trivial h hd.2 32 32 (by rw [hd.1]; omega) (by omega)
  rwa [List.take_of_length_le (by rw [hd.1]; omega)] at t
theorem tree_nil_walk {a : Option Addr} {c : Nat} {w : World} (hR : Roots w) :
    Calls Tryd.prog 14 #[.slice a 0 c] w fun e w' => e = .returned (.agg (nums (Sm.tree [])).toArray) ∧ Below w.heap.size w w' := by
  have HR := Lib.hid hR
  clear hR
  rw [tree_nil]
  go_enter Tryd.func14, Tryd.ntmps14
  go_wp2_with fail
  rw [zero32z]
  have k0 := Whole.new w 24 (nums (zs 32)).toArray
  have b0 := below_alloc w (.cells (nums (zs 32)).toArray 24)
  have r0 := HR.out.alloc (.cells (nums (zs 32)).toArray 24)
  generalize w.alloc (.cells (nums (zs 32)).toArray 24) = w0 at *
  refine (sum_any (S := fun _ => True) (n := 0) (ps := []) ⟨rfl, Or.inl rfl⟩ r0 (by simp) (by omega)).mono ?_
  rintro e w1 ⟨rfl, hb1⟩
  rw [show ([] : List (List Int)).flatten = [] from rfl]
  have K1 := Lib.hid (k0.below hb1 k0.lt)
  have B1 : Hid (Below w.heap.size w w1) := Lib.hid (b0.trans (hb1.mono (Nat.le_of_lt k0.lt)))
  clear k0 b0 r0 hb1
  have hNe := all_nums (Sm.dig [])
  have HNS := Lib.hid (row_size (dig_ok []))
  with_reducible generalize hN : (nums (Sm.dig [])).toArray = N at *
  go_wp2_with ((with_reducible show wpList _ _ _ ((⟨_, Op.store 24 _ _, _, _, _, _⟩ : Oper) :: _) _ _); refine wpList_store_row rfl _ (.tmp 2) (.tmp 10) rfl w.heap.size N rfl rfl 24 _ K1.out (by rw [HNS.out]; exact info32) (by rw [HNS.out]; rfl) hNe ?_)
  refine bodyPost_ret (results_one_cell rfl _ _ _ _ rfl (run_loadVar_row _ _ _ _ _ (0, 0) _ (K1.out.row N) und32 rfl (by rw [HNS.out]; exact info32))) rfl ?_
  exact ⟨by rw [hN], below_row B1.out (Nat.le_refl _) N⟩
theorem tree_one_walk {S : Nat → Prop} {a : Option Addr} {c : Nat} {d : List Int} {w : World} (h : Digs w S a 1 [d]) :
    Calls Tryd.prog 14 #[.slice a 1 c] w fun e w' => e = .returned (.agg (nums (Sm.tree [d])).toArray) ∧ Below w.heap.size w w' := by
  obtain ⟨_, hd, h4⟩ := h
  rcases h4 with h4 | ⟨b, off, rfl, _, hlt, hc⟩
  · cases h4
  have hdd := hd d (by simp)
  have r0 : w.rangeAt b off (nums d) := by have := hc 0 (by omega); simpa using this
  have HD := Lib.hid hdd
  have HR := Lib.hid (World.rangeAt_alloc r0 (.cells #[Value.int IntKind.u8 0, Value.int IntKind.u8 0, Value.int IntKind.u8 0, Value.int IntKind.u8 0, Value.int IntKind.u8 0, Value.int IntKind.u8 0, Value.int IntKind.u8 0, Value.int IntKind.u8 0, Value.int IntKind.u8 0, Value.int IntKind.u8 0, Value.int IntKind.u8 0, Value.int IntKind.u8 0, Value.int IntKind.u8 0, Value.int IntKind.u8 0, Value.int IntKind.u8 0, Value.int IntKind.u8 0, Value.int IntKind.u8 0, Value.int IntKind.u8 0, Value.int IntKind.u8 0, Value.int IntKind.u8 0, Value.int IntKind.u8 0, Value.int IntKind.u8 0, Value.int IntKind.u8 0, Value.int IntKind.u8 0, Value.int IntKind.u8 0, Value.int IntKind.u8 0, Value.int IntKind.u8 0, Value.int IntKind.u8 0, Value.int IntKind.u8 0, Value.int IntKind.u8 0, Value.int IntKind.u8 0, Value.int IntKind.u8 0] 24))
  have HL : Hid ((nums d).length = 32) := Lib.hid (by rw [nums_len, hdd.1])
  clear hd hdd r0 hc
  have hNe := all_nums d
  have HNS := Lib.hid (row_size HD.out)
  go_enter Tryd.func14, Tryd.ntmps14
  go_wp2_with (first
    | ((with_reducible show wpList _ _ _ ((⟨_, Op.load 24 _, _, _, _, _⟩ : Oper) :: _) _ _); refine wpList_load_mid rfl _ (.tmp 14) rfl b off rfl _ _ HR.out und32 rfl (by rw [HL.out]; exact info32) ?_)
    | ((with_reducible show wpList _ _ _ ((⟨_, Op.store 24 _ _, _, _, _, _⟩ : Oper) :: _) _ _); refine wpList_store_row rfl _ (.tmp 2) (.tmp 15) rfl w.heap.size (nums d).toArray rfl rfl 24 _ (Whole.new _ _ _) (by rw [HNS.out]; exact info32) (by rw [HNS.out]; rfl) hNe ?_))
  refine bodyPost_ret (results_one_cell rfl _ _ _ _ rfl (run_loadVar_row _ _ _ _ _ (0, 0) _ ((Whole.new w _ _).row (nums d).toArray) und32 rfl (by rw [HNS.out]; exact info32))) rfl ?_
  exact ⟨rfl, below_row (below_alloc _ _) (Nat.le_refl _) _⟩

set_option linter.unusedSimpArgs false in
set_option maxHeartbeats 8000000 in
theorem tree_walk (n : Nat) : ∀ {S : Nat → Prop} {a : Option Addr} {c : Nat} {l : List (List Int)} {w : World}, Digs w S a n l → Roots w → n ≤ c → n ≤ 200 →
    Calls Tryd.prog 14 #[.slice a n c] w fun e w' => e = .returned (.agg (nums (Sm.tree l)).toArray) ∧ Below w.heap.size w w' := by
  induction n using Nat.strongRecOn with
  | _ n ih0 =>
  intro S a c l w h hR hnc hn
  have IH : Hid (∀ m, m < n → ∀ {S : Nat → Prop} {a : Option Addr} {c : Nat} {l : List (List Int)} {w : World}, Digs w S a m l → Roots w → m ≤ c → m ≤ 200 → Calls Tryd.prog 14 #[.slice a m c] w fun e w' => e = .returned (.agg (nums (Sm.tree l)).toArray) ∧ Below w.heap.size w w') := Lib.hid ih0
  clear ih0
  by_cases h0 : n = 0
  · subst h0
    have : l = [] := List.eq_nil_of_length_eq_zero h.1
    subst this
    exact tree_nil_walk hR
  by_cases h1 : n = 1
  · subst h1
    obtain ⟨d, rfl⟩ : ∃ d, l = [d] := List.length_eq_one_iff.1 h.1
    exact tree_one_walk h
  have h2 : 2 ≤ n := by omega
  have hl : l.length = n := h.1
  have hp := pw_spec n h2
  obtain ⟨p, hpe⟩ : ∃ p, Sm.pw n = p := ⟨_, rfl⟩
  rw [hpe] at hp
  have HPE := Lib.hid hpe
  obtain ⟨hp1, hp2, hp3⟩ := hp
  have HT : Hid (Sm.tree l = Sm.dig (1 :: (Sm.tree (l.take p) ++ Sm.tree (l.drop p)))) := Lib.hid (by have := tree_more l (by omega); rw [hl, hpe] at this; exact this)
  have HX : Hid (Dig (Sm.tree (l.take p)) ∧ Dig (Sm.tree (l.drop p)) ∧ Dig (Sm.tree l)) := Lib.hid ⟨tree_ok _ (fun d hd => h.2.1 d (List.mem_of_mem_take hd)), tree_ok _ (fun d hd => h.2.1 d (List.mem_of_mem_drop hd)), tree_ok _ h.2.1⟩
  have HA := Lib.hid (h.old.take p (by omega))
  have hB2 := hR.two
  have HR := Lib.hid hR
  obtain ⟨A, hslo, HC⟩ : ∃ A, (∀ w, (Instr.slice 29 (.slice a n c) (some (.int .i64 (p : Int))) none none).run Tryd.prog w = .ok (.slice A (n - p) (c - p)) w) ∧ Hid (Digs w (fun b => b < w.heap.size) A (n - p) (l.drop p)) := ⟨_, slice_lo (by omega), Lib.hid (h.old.drop p c (by omega) hnc)⟩
  have hshi : ∀ w, (Instr.slice 29 (.slice a n c) none (some (.int .i64 (p : Int))) none).run Tryd.prog w = .ok (.slice a p c) w := slice_hi (by omega) (by omega)
  have e0 : ((n : Int) == 0) = false := by rw [beq_eq_false_iff_ne]; omega
  have e1 : ((n : Int) == 1) = false := by rw [beq_eq_false_iff_ne]; omega
  clear h hR hpe
  with_reducible generalize Sm.tree l = res at *
  have HXL := Lib.hid (And.intro HX.out.1 HX.out.2.1)
  obtain ⟨x, hx⟩ : ∃ x, Sm.tree (l.take p) = x := ⟨_, rfl⟩
  obtain ⟨y, hy⟩ : ∃ y, Sm.tree (l.drop p) = y := ⟨_, rfl⟩
  rw [hx, hy] at HT HX
  clear HXL
  have HXE := Lib.hid hx
  have HYE := Lib.hid hy
  clear hx hy
  go_enter Tryd.func14, Tryd.ntmps14
  go_upto_region 7 with (go_at_call 22; refine (powerBelow_any n _ h2 hn).mono ?_; rintro e w' ⟨rfl, rfl⟩; rw [HPE.out])
  rw [zero32z]
  have k0 := Whole.new w 24 (nums (zs 32)).toArray
  have b0 := below_alloc w (.cells (nums (zs 32)).toArray 24)
  have z0 : w.heap.size + 1 ≤ (w.alloc (.cells (nums (zs 32)).toArray 24)).heap.size := k0.lt
  generalize w.alloc (.cells (nums (zs 32)).toArray 24) = w0 at *
  generalize hBe : w.heap.size = B at *
  have HBE := Lib.hid hBe
  have H0 := Lib.hid (And.intro k0 b0)
  clear k0 b0 hBe
  have HV : Hid (∀ v, Below (B + 1) w0 v → Below B w v) := Lib.hid (fun v hv => H0.out.2.trans (hv.mono (by omega)))
  go_cut [4, 5] (fun v4 v5 wr => ∃ P Q : Nat, v4 = .pointer (some ⟨P, 0, none⟩) ∧ v5 = .pointer (some ⟨Q, 0, none⟩) ∧ Hid (Whole wr P 24 (nums x).toArray ∧ Whole wr Q 24 (nums y).toArray ∧ B + 1 ≤ P ∧ B + 1 ≤ Q ∧ Below (B + 1) w0 wr))
  case first =>
    refine wp_region_held_drew (S := fun _ => True) (by kernel_rfl) trivial (fun hHeld => ?_)
    have HB0 : Hid (Below (B + 1) w0 w0.drew) := Lib.hid ((Below.refl _ _).drew)
    generalize w0.drew = v0 at *
    refine wpAnyH_take (i := 0) (v := .slice a n c) rfl (by kernel_rfl) (by kernel_rfl) (by kernel_rfl) (fun _ _ _ h => h) (Or.inl ⟨by rfl, (by intro w hSw; (try dsimp only at hSw); go_simp)⟩) (by assumption) ?_
    try simp only [Act.put, List.getElem_toArray, List.getElem_cons_zero, List.getElem_cons_succ, List.setIfInBounds_toArray, List.set_cons_zero, List.set_cons_succ]
    refine wpAnyH_take (i := 1) (v := .int .i64 (p : Int)) rfl (by kernel_rfl) (by kernel_rfl) (by kernel_rfl) (fun _ _ _ h => h) (Or.inl ⟨by rfl, (by intro w hSw; (try dsimp only at hSw); go_simp)⟩) (by assumption) ?_
    try simp only [Act.put, List.getElem_toArray, List.getElem_cons_zero, List.getElem_cons_succ, List.setIfInBounds_toArray, List.set_cons_zero, List.set_cons_succ]
    refine wpAnyH_take (i := 2) (v := .slice a p c) rfl (by kernel_rfl) (by kernel_rfl) (by kernel_rfl) (fun _ _ _ h => h) (Or.inl ⟨by rfl, (by intro w hSw; (try dsimp only at hSw); go_simp)⟩) (by assumption) ?_
    try simp only [Act.put, List.getElem_toArray, List.getElem_cons_zero, List.getElem_cons_succ, List.setIfInBounds_toArray, List.set_cons_zero, List.set_cons_succ]
    refine wpAnyH_take (i := 4) (v := .slice a n c) rfl (by kernel_rfl) (by kernel_rfl) (by kernel_rfl) (fun _ _ _ h => h) (Or.inl ⟨by rfl, (by intro w hSw; (try dsimp only at hSw); go_simp)⟩) (by assumption) ?_
    try simp only [Act.put, List.getElem_toArray, List.getElem_cons_zero, List.getElem_cons_succ, List.setIfInBounds_toArray, List.set_cons_zero, List.set_cons_succ]
    refine wpAnyH_take (i := 5) (v := .int .i64 (p : Int)) rfl (by kernel_rfl) (by kernel_rfl) (by kernel_rfl) (fun _ _ _ h => h) (Or.inl ⟨by rfl, (by intro w hSw; (try dsimp only at hSw); go_simp)⟩) (by assumption) ?_
    try simp only [Act.put, List.getElem_toArray, List.getElem_cons_zero, List.getElem_cons_succ, List.setIfInBounds_toArray, List.set_cons_zero, List.set_cons_succ]
    refine wpAnyH_take (i := 6) (v := .slice A (n - p) (c - p)) rfl (by kernel_rfl) (by kernel_rfl) (by kernel_rfl) (fun _ _ _ h => h) (Or.inl ⟨by rfl, (by intro w hSw; (try dsimp only at hSw); go_simp)⟩) (by assumption) ?_
    try simp only [Act.put, List.getElem_toArray, List.getElem_cons_zero, List.getElem_cons_succ, List.setIfInBounds_toArray, List.set_cons_zero, List.set_cons_succ]
    refine wpAnyH_ready (rs := [3, 8, 9]) (by kernel_rfl) (by simp) (AllReadyH.cons rfl (fun K hK => ?_) (AllReadyH.cons rfl (fun K hK => ?_) (AllReadyH.cons rfl (fun K hK => ?_) AllReadyH.nil)))
    · skip
      have hd0 := HA.out.below (HV.out v0 HB0.out) (fun b _ h => h)
      try simp only [List.getElem_toArray, List.getElem_cons_zero, List.getElem_cons_succ]
      go_simp
      go_at_call 14
      refine (IH.out p (by omega) hd0 (HR.out.below (HV.out v0 HB0.out) (by omega)) (by omega) (by omega)).mono ?_
      rintro e v1 ⟨rfl, hb0⟩
      rw [HXE.out]
      have HB1 : Hid (Below (B + 1) w0 v1) := Lib.hid (HB0.out.trans (hb0.mono (Nat.le_trans z0 HB0.out.size)))
      clear hb0 hd0
      go_wp2_with fail
      refine hK.out _ _ trivial (fun hHeld => ?_)
      clear hK K
      try simp only [Act.put, List.getElem_toArray, List.getElem_cons_zero, List.getElem_cons_succ, List.setIfInBounds_toArray, List.set_cons_zero, List.set_cons_succ]
      refine wpAnyH_ready (rs := [7, 8, 9]) (by kernel_rfl) (by simp) (AllReadyH.cons rfl (fun K hK => ?_) (AllReadyH.cons rfl (fun K hK => ?_) (AllReadyH.cons rfl (fun K hK => ?_) AllReadyH.nil)))
      · skip
        have hd1 := HC.out.below (HV.out v1 HB1.out) (fun b _ h => h)
        try simp only [List.getElem_toArray, List.getElem_cons_zero, List.getElem_cons_succ]
        go_simp
        go_at_call 14
        refine (IH.out (n - p) (by omega) hd1 (HR.out.below (HV.out v1 HB1.out) (by omega)) (by omega) (by omega)).mono ?_
        rintro e v2 ⟨rfl, hb1⟩
        rw [HYE.out]
        have HB2 : Hid (Below (B + 1) w0 v2) := Lib.hid (HB1.out.trans (hb1.mono (Nat.le_trans z0 HB1.out.size)))
        clear hb1 hd1
        go_wp2_with fail
        refine hK.out _ _ trivial (fun hHeld => ?_)
        clear hK K
        try simp only [Act.put, List.getElem_toArray, List.getElem_cons_zero, List.getElem_cons_succ, List.setIfInBounds_toArray, List.set_cons_zero, List.set_cons_succ]
        refine wpAnyH_ready (rs := [8, 9]) (by kernel_rfl) (by simp) (AllReadyH.cons rfl (fun K hK => ?_) (AllReadyH.cons rfl (fun K hK => ?_) AllReadyH.nil))
        · skip
          try simp only [List.getElem_toArray, List.getElem_cons_zero, List.getElem_cons_succ]
          go_simp
          rw [zero32z]
          have HP3 := Lib.hid (Whole.new v2 24 (nums (zs 32)).toArray)
          have geP : B + 1 ≤ v2.heap.size := Nat.le_trans z0 HB2.out.size
          have HB3 : Hid (Below (B + 1) w0 (v2.alloc (.cells (nums (zs 32)).toArray 24))) := Lib.hid (HB2.out.alloc geP _)
          refine hK.out _ _ trivial (fun hHeld => ?_)
          clear hK K
          try simp only [Act.put, List.getElem_toArray, List.getElem_cons_zero, List.getElem_cons_succ, List.setIfInBounds_toArray, List.set_cons_zero, List.set_cons_succ]
          generalize v2.alloc (.cells (nums (zs 32)).toArray 24) = v3 at *
          generalize v2.heap.size = P at *
          refine wpAnyH_ready (rs := [9]) (by kernel_rfl) (by simp) (AllReadyH.cons rfl (fun K hK => ?_) AllReadyH.nil)
          · skip
            try simp only [List.getElem_toArray, List.getElem_cons_zero, List.getElem_cons_succ]
            go_simp
            rw [zero32z]
            have HQ4 := Lib.hid (Whole.new v3 24 (nums (zs 32)).toArray)
            have geQ : B + 1 ≤ v3.heap.size := Nat.le_trans z0 HB3.out.size
            have HB4 : Hid (Below (B + 1) w0 (v3.alloc (.cells (nums (zs 32)).toArray 24))) := Lib.hid (HB3.out.alloc geQ _)
            have HP4 := Lib.hid (HP3.out.alloc (.cells (nums (zs 32)).toArray 24))
            have ne : P ≠ v3.heap.size := Nat.ne_of_lt HP3.out.lt
            refine hK.out _ _ trivial (fun hHeld => ?_)
            clear hK K
            try simp only [Act.put, List.getElem_toArray, List.getElem_cons_zero, List.getElem_cons_succ, List.setIfInBounds_toArray, List.set_cons_zero, List.set_cons_succ]
            generalize v3.alloc (.cells (nums (zs 32)).toArray 24) = v4 at *
            generalize v3.heap.size = Q at *
            have nePQ : P ≠ Q := ne
            refine wpAnyH_ready (rs := [10]) (by kernel_rfl) (by simp) (AllReadyH.cons rfl (fun K hK => ?_) AllReadyH.nil)
            try simp only [List.getElem_toArray, List.getElem_cons_zero, List.getElem_cons_succ]
            refine if_wanted (by rfl) ?_
            refine wp_store_row _ _ _ rfl P (nums x).toArray rfl rfl 24 _ HP4.out (by rw [row_size HX.out.1]; exact info32) (by rw [zs32_size, row_size HX.out.1]) (all_nums x) ?_
            refine hK.out _ _ trivial (fun hHeld => ?_)
            clear hK K
            try simp only [Act.put, List.getElem_toArray, List.getElem_cons_zero, List.getElem_cons_succ, List.setIfInBounds_toArray, List.set_cons_zero, List.set_cons_succ]
            have HP5 := Lib.hid (HP4.out.row (nums x).toArray)
            have HQ5 := Lib.hid (HQ4.out.rowFar (b := P) (Ne.symm nePQ) (nums x).toArray)
            have HB5 := Lib.hid (below_row HB4.out (g := P) geP (nums x).toArray)
            refine wpAnyH_ready (rs := [11]) (by kernel_rfl) (by simp) (AllReadyH.cons rfl (fun K hK => ?_) AllReadyH.nil)
            try simp only [List.getElem_toArray, List.getElem_cons_zero, List.getElem_cons_succ]
            refine if_wanted (by rfl) ?_
            refine wp_store_row _ _ _ rfl Q (nums y).toArray rfl rfl 24 _ HQ5.out (by rw [row_size HX.out.2.1]; exact info32) (by rw [zs32_size, row_size HX.out.2.1]) (all_nums y) ?_
            refine hK.out _ _ trivial (fun hHeld => ?_)
            clear hK K
            try simp only [Act.put, List.getElem_toArray, List.getElem_cons_zero, List.getElem_cons_succ, List.setIfInBounds_toArray, List.set_cons_zero, List.set_cons_succ]
            have HQ6 := Lib.hid (HQ5.out.row (nums y).toArray)
            have HP6 := Lib.hid (HP5.out.rowFar (b := Q) nePQ (nums y).toArray)
            have HB6 := Lib.hid (below_row HB5.out (g := Q) geQ (nums y).toArray)
            refine wpAnyH_done (by kernel_rfl) ?_ _
            go_wp2_with fail
            go_meet
            exact ⟨P, Q, rfl, rfl, Lib.hid ⟨HP6.out, HQ6.out, geP, geQ, HB6.out⟩⟩
        · skip
          try simp only [List.getElem_toArray, List.getElem_cons_zero, List.getElem_cons_succ]
          go_simp
          rw [zero32z]
          have HQ3 := Lib.hid (Whole.new v2 24 (nums (zs 32)).toArray)
          have geQ : B + 1 ≤ v2.heap.size := Nat.le_trans z0 HB2.out.size
          have HB3 : Hid (Below (B + 1) w0 (v2.alloc (.cells (nums (zs 32)).toArray 24))) := Lib.hid (HB2.out.alloc geQ _)
          refine hK.out _ _ trivial (fun hHeld => ?_)
          clear hK K
          try simp only [Act.put, List.getElem_toArray, List.getElem_cons_zero, List.getElem_cons_succ, List.setIfInBounds_toArray, List.set_cons_zero, List.set_cons_succ]
          generalize v2.alloc (.cells (nums (zs 32)).toArray 24) = v3 at *
          generalize v2.heap.size = Q at *
          refine wpAnyH_ready (rs := [8]) (by kernel_rfl) (by simp) (AllReadyH.cons rfl (fun K hK => ?_) AllReadyH.nil)
          · skip
            try simp only [List.getElem_toArray, List.getElem_cons_zero, List.getElem_cons_succ]
            go_simp
            rw [zero32z]
            have HP4 := Lib.hid (Whole.new v3 24 (nums (zs 32)).toArray)
            have geP : B + 1 ≤ v3.heap.size := Nat.le_trans z0 HB3.out.size
            have HB4 : Hid (Below (B + 1) w0 (v3.alloc (.cells (nums (zs 32)).toArray 24))) := Lib.hid (HB3.out.alloc geP _)
            have HQ4 := Lib.hid (HQ3.out.alloc (.cells (nums (zs 32)).toArray 24))
            have ne : Q ≠ v3.heap.size := Nat.ne_of_lt HQ3.out.lt
            refine hK.out _ _ trivial (fun hHeld => ?_)
            clear hK K
            try simp only [Act.put, List.getElem_toArray, List.getElem_cons_zero, List.getElem_cons_succ, List.setIfInBounds_toArray, List.set_cons_zero, List.set_cons_succ]
            generalize v3.alloc (.cells (nums (zs 32)).toArray 24) = v4 at *
            generalize v3.heap.size = P at *
            have nePQ : P ≠ Q := Ne.symm ne
            refine wpAnyH_ready (rs := [10]) (by kernel_rfl) (by simp) (AllReadyH.cons rfl (fun K hK => ?_) AllReadyH.nil)
            try simp only [List.getElem_toArray, List.getElem_cons_zero, List.getElem_cons_succ]
            refine if_wanted (by rfl) ?_
            refine wp_store_row _ _ _ rfl P (nums x).toArray rfl rfl 24 _ HP4.out (by rw [row_size HX.out.1]; exact info32) (by rw [zs32_size, row_size HX.out.1]) (all_nums x) ?_
            refine hK.out _ _ trivial (fun hHeld => ?_)
            clear hK K
            try simp only [Act.put, List.getElem_toArray, List.getElem_cons_zero, List.getElem_cons_succ, List.setIfInBounds_toArray, List.set_cons_zero, List.set_cons_succ]
            have HP5 := Lib.hid (HP4.out.row (nums x).toArray)
            have HQ5 := Lib.hid (HQ4.out.rowFar (b := P) (Ne.symm nePQ) (nums x).toArray)
            have HB5 := Lib.hid (below_row HB4.out (g := P) geP (nums x).toArray)
            refine wpAnyH_ready (rs := [11]) (by kernel_rfl) (by simp) (AllReadyH.cons rfl (fun K hK => ?_) AllReadyH.nil)
            try simp only [List.getElem_toArray, List.getElem_cons_zero, List.getElem_cons_succ]
            refine if_wanted (by rfl) ?_
            refine wp_store_row _ _ _ rfl Q (nums y).toArray rfl rfl 24 _ HQ5.out (by rw [row_size HX.out.2.1]; exact info32) (by rw [zs32_size, row_size HX.out.2.1]) (all_nums y) ?_
            refine hK.out _ _ trivial (fun hHeld => ?_)
            clear hK K
            try simp only [Act.put, List.getElem_toArray, List.getElem_cons_zero, List.getElem_cons_succ, List.setIfInBounds_toArray, List.set_cons_zero, List.set_cons_succ]
            have HQ6 := Lib.hid (HQ5.out.row (nums y).toArray)
            have HP6 := Lib.hid (HP5.out.rowFar (b := Q) nePQ (nums y).toArray)
            have HB6 := Lib.hid (below_row HB5.out (g := Q) geQ (nums y).toArray)
            refine wpAnyH_done (by kernel_rfl) ?_ _
            go_wp2_with fail
            go_meet
            exact ⟨P, Q, rfl, rfl, Lib.hid ⟨HP6.out, HQ6.out, geP, geQ, HB6.out⟩⟩
      · skip
        try simp only [List.getElem_toArray, List.getElem_cons_zero, List.getElem_cons_succ]
        go_simp
        rw [zero32z]
        have HP2 := Lib.hid (Whole.new v1 24 (nums (zs 32)).toArray)
        have geP : B + 1 ≤ v1.heap.size := Nat.le_trans z0 HB1.out.size
        have HB2 : Hid (Below (B + 1) w0 (v1.alloc (.cells (nums (zs 32)).toArray 24))) := Lib.hid (HB1.out.alloc geP _)
        refine hK.out _ _ trivial (fun hHeld => ?_)
        clear hK K
        try simp only [Act.put, List.getElem_toArray, List.getElem_cons_zero, List.getElem_cons_succ, List.setIfInBounds_toArray, List.set_cons_zero, List.set_cons_succ]
        generalize v1.alloc (.cells (nums (zs 32)).toArray 24) = v2 at *
        generalize v1.heap.size = P at *
        refine wpAnyH_ready (rs := [7, 9]) (by kernel_rfl) (by simp) (AllReadyH.cons rfl (fun K hK => ?_) (AllReadyH.cons rfl (fun K hK => ?_) AllReadyH.nil))
        · skip
          have hd2 := HC.out.below (HV.out v2 HB2.out) (fun b _ h => h)
          try simp only [List.getElem_toArray, List.getElem_cons_zero, List.getElem_cons_succ]
          go_simp
          go_at_call 14
          refine (IH.out (n - p) (by omega) hd2 (HR.out.below (HV.out v2 HB2.out) (by omega)) (by omega) (by omega)).mono ?_
          rintro e v3 ⟨rfl, hb2⟩
          rw [HYE.out]
          have HB3 : Hid (Below (B + 1) w0 v3) := Lib.hid (HB2.out.trans (hb2.mono (Nat.le_trans z0 HB2.out.size)))
          have HP3 := Lib.hid (HP2.out.below hb2 HP2.out.lt)
          clear hb2 hd2
          go_wp2_with fail
          refine hK.out _ _ trivial (fun hHeld => ?_)
          clear hK K
          try simp only [Act.put, List.getElem_toArray, List.getElem_cons_zero, List.getElem_cons_succ, List.setIfInBounds_toArray, List.set_cons_zero, List.set_cons_succ]
          refine wpAnyH_ready (rs := [9]) (by kernel_rfl) (by simp) (AllReadyH.cons rfl (fun K hK => ?_) AllReadyH.nil)
          · skip
            try simp only [List.getElem_toArray, List.getElem_cons_zero, List.getElem_cons_succ]
            go_simp
            rw [zero32z]
            have HQ4 := Lib.hid (Whole.new v3 24 (nums (zs 32)).toArray)
            have geQ : B + 1 ≤ v3.heap.size := Nat.le_trans z0 HB3.out.size
            have HB4 : Hid (Below (B + 1) w0 (v3.alloc (.cells (nums (zs 32)).toArray 24))) := Lib.hid (HB3.out.alloc geQ _)
            have HP4 := Lib.hid (HP3.out.alloc (.cells (nums (zs 32)).toArray 24))
            have ne : P ≠ v3.heap.size := Nat.ne_of_lt HP3.out.lt
            refine hK.out _ _ trivial (fun hHeld => ?_)
            clear hK K
            try simp only [Act.put, List.getElem_toArray, List.getElem_cons_zero, List.getElem_cons_succ, List.setIfInBounds_toArray, List.set_cons_zero, List.set_cons_succ]
            generalize v3.alloc (.cells (nums (zs 32)).toArray 24) = v4 at *
            generalize v3.heap.size = Q at *
            have nePQ : P ≠ Q := ne
            refine wpAnyH_ready (rs := [10]) (by kernel_rfl) (by simp) (AllReadyH.cons rfl (fun K hK => ?_) AllReadyH.nil)
            try simp only [List.getElem_toArray, List.getElem_cons_zero, List.getElem_cons_succ]
            refine if_wanted (by rfl) ?_
            refine wp_store_row _ _ _ rfl P (nums x).toArray rfl rfl 24 _ HP4.out (by rw [row_size HX.out.1]; exact info32) (by rw [zs32_size, row_size HX.out.1]) (all_nums x) ?_
            refine hK.out _ _ trivial (fun hHeld => ?_)
            clear hK K
            try simp only [Act.put, List.getElem_toArray, List.getElem_cons_zero, List.getElem_cons_succ, List.setIfInBounds_toArray, List.set_cons_zero, List.set_cons_succ]
            have HP5 := Lib.hid (HP4.out.row (nums x).toArray)
            have HQ5 := Lib.hid (HQ4.out.rowFar (b := P) (Ne.symm nePQ) (nums x).toArray)
            have HB5 := Lib.hid (below_row HB4.out (g := P) geP (nums x).toArray)
            refine wpAnyH_ready (rs := [11]) (by kernel_rfl) (by simp) (AllReadyH.cons rfl (fun K hK => ?_) AllReadyH.nil)
            try simp only [List.getElem_toArray, List.getElem_cons_zero, List.getElem_cons_succ]
            refine if_wanted (by rfl) ?_
            refine wp_store_row _ _ _ rfl Q (nums y).toArray rfl rfl 24 _ HQ5.out (by rw [row_size HX.out.2.1]; exact info32) (by rw [zs32_size, row_size HX.out.2.1]) (all_nums y) ?_
            refine hK.out _ _ trivial (fun hHeld => ?_)
            clear hK K
            try simp only [Act.put, List.getElem_toArray, List.getElem_cons_zero, List.getElem_cons_succ, List.setIfInBounds_toArray, List.set_cons_zero, List.set_cons_succ]
            have HQ6 := Lib.hid (HQ5.out.row (nums y).toArray)
            have HP6 := Lib.hid (HP5.out.rowFar (b := Q) nePQ (nums y).toArray)
            have HB6 := Lib.hid (below_row HB5.out (g := Q) geQ (nums y).toArray)
            refine wpAnyH_done (by kernel_rfl) ?_ _
            go_wp2_with fail
            go_meet
            exact ⟨P, Q, rfl, rfl, Lib.hid ⟨HP6.out, HQ6.out, geP, geQ, HB6.out⟩⟩
        · skip
          try simp only [List.getElem_toArray, List.getElem_cons_zero, List.getElem_cons_succ]
          go_simp
          rw [zero32z]
          have HQ3 := Lib.hid (Whole.new v2 24 (nums (zs 32)).toArray)
          have geQ : B + 1 ≤ v2.heap.size := Nat.le_trans z0 HB2.out.size
          have HB3 : Hid (Below (B + 1) w0 (v2.alloc (.cells (nums (zs 32)).toArray 24))) := Lib.hid (HB2.out.alloc geQ _)
          have HP3 := Lib.hid (HP2.out.alloc (.cells (nums (zs 32)).toArray 24))
          have ne : P ≠ v2.heap.size := Nat.ne_of_lt HP2.out.lt
          refine hK.out _ _ trivial (fun hHeld => ?_)
          clear hK K
          try simp only [Act.put, List.getElem_toArray, List.getElem_cons_zero, List.getElem_cons_succ, List.setIfInBounds_toArray, List.set_cons_zero, List.set_cons_succ]
          generalize v2.alloc (.cells (nums (zs 32)).toArray 24) = v3 at *
          generalize v2.heap.size = Q at *
          refine wpAnyH_ready (rs := [7]) (by kernel_rfl) (by simp) (AllReadyH.cons rfl (fun K hK => ?_) AllReadyH.nil)
          · skip
            have hd3 := HC.out.below (HV.out v3 HB3.out) (fun b _ h => h)
            try simp only [List.getElem_toArray, List.getElem_cons_zero, List.getElem_cons_succ]
            go_simp
            go_at_call 14
            refine (IH.out (n - p) (by omega) hd3 (HR.out.below (HV.out v3 HB3.out) (by omega)) (by omega) (by omega)).mono ?_
            rintro e v4 ⟨rfl, hb3⟩
            rw [HYE.out]
            have HB4 : Hid (Below (B + 1) w0 v4) := Lib.hid (HB3.out.trans (hb3.mono (Nat.le_trans z0 HB3.out.size)))
            have HP4 := Lib.hid (HP3.out.below hb3 HP3.out.lt)
            have HQ4 := Lib.hid (HQ3.out.below hb3 HQ3.out.lt)
            clear hb3 hd3
            go_wp2_with fail
            refine hK.out _ _ trivial (fun hHeld => ?_)
            clear hK K
            try simp only [Act.put, List.getElem_toArray, List.getElem_cons_zero, List.getElem_cons_succ, List.setIfInBounds_toArray, List.set_cons_zero, List.set_cons_succ]
            have nePQ : P ≠ Q := ne
            refine wpAnyH_ready (rs := [10]) (by kernel_rfl) (by simp) (AllReadyH.cons rfl (fun K hK => ?_) AllReadyH.nil)
            try simp only [List.getElem_toArray, List.getElem_cons_zero, List.getElem_cons_succ]
            refine if_wanted (by rfl) ?_
            refine wp_store_row _ _ _ rfl P (nums x).toArray rfl rfl 24 _ HP4.out (by rw [row_size HX.out.1]; exact info32) (by rw [zs32_size, row_size HX.out.1]) (all_nums x) ?_
            refine hK.out _ _ trivial (fun hHeld => ?_)
            clear hK K
            try simp only [Act.put, List.getElem_toArray, List.getElem_cons_zero, List.getElem_cons_succ, List.setIfInBounds_toArray, List.set_cons_zero, List.set_cons_succ]
            have HP5 := Lib.hid (HP4.out.row (nums x).toArray)
            have HQ5 := Lib.hid (HQ4.out.rowFar (b := P) (Ne.symm nePQ) (nums x).toArray)
            have HB5 := Lib.hid (below_row HB4.out (g := P) geP (nums x).toArray)
            refine wpAnyH_ready (rs := [11]) (by kernel_rfl) (by simp) (AllReadyH.cons rfl (fun K hK => ?_) AllReadyH.nil)
            try simp only [List.getElem_toArray, List.getElem_cons_zero, List.getElem_cons_succ]
            refine if_wanted (by rfl) ?_
            refine wp_store_row _ _ _ rfl Q (nums y).toArray rfl rfl 24 _ HQ5.out (by rw [row_size HX.out.2.1]; exact info32) (by rw [zs32_size, row_size HX.out.2.1]) (all_nums y) ?_
            refine hK.out _ _ trivial (fun hHeld => ?_)
            clear hK K
            try simp only [Act.put, List.getElem_toArray, List.getElem_cons_zero, List.getElem_cons_succ, List.setIfInBounds_toArray, List.set_cons_zero, List.set_cons_succ]
            have HQ6 := Lib.hid (HQ5.out.row (nums y).toArray)
            have HP6 := Lib.hid (HP5.out.rowFar (b := Q) nePQ (nums y).toArray)
            have HB6 := Lib.hid (below_row HB5.out (g := Q) geQ (nums y).toArray)
            refine wpAnyH_done (by kernel_rfl) ?_ _
            go_wp2_with fail
            go_meet
            exact ⟨P, Q, rfl, rfl, Lib.hid ⟨HP6.out, HQ6.out, geP, geQ, HB6.out⟩⟩
      · skip
        try simp only [List.getElem_toArray, List.getElem_cons_zero, List.getElem_cons_succ]
        go_simp
        rw [zero32z]
        have HQ2 := Lib.hid (Whole.new v1 24 (nums (zs 32)).toArray)
        have geQ : B + 1 ≤ v1.heap.size := Nat.le_trans z0 HB1.out.size
        have HB2 : Hid (Below (B + 1) w0 (v1.alloc (.cells (nums (zs 32)).toArray 24))) := Lib.hid (HB1.out.alloc geQ _)
        refine hK.out _ _ trivial (fun hHeld => ?_)
        clear hK K
        try simp only [Act.put, List.getElem_toArray, List.getElem_cons_zero, List.getElem_cons_succ, List.setIfInBounds_toArray, List.set_cons_zero, List.set_cons_succ]
        generalize v1.alloc (.cells (nums (zs 32)).toArray 24) = v2 at *
        generalize v1.heap.size = Q at *
        refine wpAnyH_ready (rs := [7, 8]) (by kernel_rfl) (by simp) (AllReadyH.cons rfl (fun K hK => ?_) (AllReadyH.cons rfl (fun K hK => ?_) AllReadyH.nil))
        · skip
          have hd2 := HC.out.below (HV.out v2 HB2.out) (fun b _ h => h)
          try simp only [List.getElem_toArray, List.getElem_cons_zero, List.getElem_cons_succ]
          go_simp
          go_at_call 14
          refine (IH.out (n - p) (by omega) hd2 (HR.out.below (HV.out v2 HB2.out) (by omega)) (by omega) (by omega)).mono ?_
          rintro e v3 ⟨rfl, hb2⟩
          rw [HYE.out]
          have HB3 : Hid (Below (B + 1) w0 v3) := Lib.hid (HB2.out.trans (hb2.mono (Nat.le_trans z0 HB2.out.size)))
          have HQ3 := Lib.hid (HQ2.out.below hb2 HQ2.out.lt)
          clear hb2 hd2
          go_wp2_with fail
          refine hK.out _ _ trivial (fun hHeld => ?_)
          clear hK K
          try simp only [Act.put, List.getElem_toArray, List.getElem_cons_zero, List.getElem_cons_succ, List.setIfInBounds_toArray, List.set_cons_zero, List.set_cons_succ]
          refine wpAnyH_ready (rs := [8]) (by kernel_rfl) (by simp) (AllReadyH.cons rfl (fun K hK => ?_) AllReadyH.nil)
          · skip
            try simp only [List.getElem_toArray, List.getElem_cons_zero, List.getElem_cons_succ]
            go_simp
            rw [zero32z]
            have HP4 := Lib.hid (Whole.new v3 24 (nums (zs 32)).toArray)
            have geP : B + 1 ≤ v3.heap.size := Nat.le_trans z0 HB3.out.size
            have HB4 : Hid (Below (B + 1) w0 (v3.alloc (.cells (nums (zs 32)).toArray 24))) := Lib.hid (HB3.out.alloc geP _)
            have HQ4 := Lib.hid (HQ3.out.alloc (.cells (nums (zs 32)).toArray 24))
            have ne : Q ≠ v3.heap.size := Nat.ne_of_lt HQ3.out.lt
            refine hK.out _ _ trivial (fun hHeld => ?_)
            clear hK K
            try simp only [Act.put, List.getElem_toArray, List.getElem_cons_zero, List.getElem_cons_succ, List.setIfInBounds_toArray, List.set_cons_zero, List.set_cons_succ]
            generalize v3.alloc (.cells (nums (zs 32)).toArray 24) = v4 at *
            generalize v3.heap.size = P at *
            have nePQ : P ≠ Q := Ne.symm ne
            refine wpAnyH_ready (rs := [10]) (by kernel_rfl) (by simp) (AllReadyH.cons rfl (fun K hK => ?_) AllReadyH.nil)
            try simp only [List.getElem_toArray, List.getElem_cons_zero, List.getElem_cons_succ]
            refine if_wanted (by rfl) ?_
            refine wp_store_row _ _ _ rfl P (nums x).toArray rfl rfl 24 _ HP4.out (by rw [row_size HX.out.1]; exact info32) (by rw [zs32_size, row_size HX.out.1]) (all_nums x) ?_
            refine hK.out _ _ trivial (fun hHeld => ?_)
            clear hK K
            try simp only [Act.put, List.getElem_toArray, List.getElem_cons_zero, List.getElem_cons_succ, List.setIfInBounds_toArray, List.set_cons_zero, List.set_cons_succ]
            have HP5 := Lib.hid (HP4.out.row (nums x).toArray)
            have HQ5 := Lib.hid (HQ4.out.rowFar (b := P) (Ne.symm nePQ) (nums x).toArray)
            have HB5 := Lib.hid (below_row HB4.out (g := P) geP (nums x).toArray)
            refine wpAnyH_ready (rs := [11]) (by kernel_rfl) (by simp) (AllReadyH.cons rfl (fun K hK => ?_) AllReadyH.nil)
            try simp only [List.getElem_toArray, List.getElem_cons_zero, List.getElem_cons_succ]
            refine if_wanted (by rfl) ?_
            refine wp_store_row _ _ _ rfl Q (nums y).toArray rfl rfl 24 _ HQ5.out (by rw [row_size HX.out.2.1]; exact info32) (by rw [zs32_size, row_size HX.out.2.1]) (all_nums y) ?_
            refine hK.out _ _ trivial (fun hHeld => ?_)
            clear hK K
            try simp only [Act.put, List.getElem_toArray, List.getElem_cons_zero, List.getElem_cons_succ, List.setIfInBounds_toArray, List.set_cons_zero, List.set_cons_succ]
            have HQ6 := Lib.hid (HQ5.out.row (nums y).toArray)
            have HP6 := Lib.hid (HP5.out.rowFar (b := Q) nePQ (nums y).toArray)
            have HB6 := Lib.hid (below_row HB5.out (g := Q) geQ (nums y).toArray)
            refine wpAnyH_done (by kernel_rfl) ?_ _
            go_wp2_with fail
            go_meet
            exact ⟨P, Q, rfl, rfl, Lib.hid ⟨HP6.out, HQ6.out, geP, geQ, HB6.out⟩⟩
        · skip
          try simp only [List.getElem_toArray, List.getElem_cons_zero, List.getElem_cons_succ]
          go_simp
          rw [zero32z]
          have HP3 := Lib.hid (Whole.new v2 24 (nums (zs 32)).toArray)
          have geP : B + 1 ≤ v2.heap.size := Nat.le_trans z0 HB2.out.size
          have HB3 : Hid (Below (B + 1) w0 (v2.alloc (.cells (nums (zs 32)).toArray 24))) := Lib.hid (HB2.out.alloc geP _)
          have HQ3 := Lib.hid (HQ2.out.alloc (.cells (nums (zs 32)).toArray 24))
          have ne : Q ≠ v2.heap.size := Nat.ne_of_lt HQ2.out.lt
          refine hK.out _ _ trivial (fun hHeld => ?_)
          clear hK K
          try simp only [Act.put, List.getElem_toArray, List.getElem_cons_zero, List.getElem_cons_succ, List.setIfInBounds_toArray, List.set_cons_zero, List.set_cons_succ]
          generalize v2.alloc (.cells (nums (zs 32)).toArray 24) = v3 at *
          generalize v2.heap.size = P at *
          refine wpAnyH_ready (rs := [7]) (by kernel_rfl) (by simp) (AllReadyH.cons rfl (fun K hK => ?_) AllReadyH.nil)
          · skip
            have hd3 := HC.out.below (HV.out v3 HB3.out) (fun b _ h => h)
            try simp only [List.getElem_toArray, List.getElem_cons_zero, List.getElem_cons_succ]
            go_simp
            go_at_call 14
            refine (IH.out (n - p) (by omega) hd3 (HR.out.below (HV.out v3 HB3.out) (by omega)) (by omega) (by omega)).mono ?_
            rintro e v4 ⟨rfl, hb3⟩
            rw [HYE.out]
            have HB4 : Hid (Below (B + 1) w0 v4) := Lib.hid (HB3.out.trans (hb3.mono (Nat.le_trans z0 HB3.out.size)))
            have HP4 := Lib.hid (HP3.out.below hb3 HP3.out.lt)
            have HQ4 := Lib.hid (HQ3.out.below hb3 HQ3.out.lt)
            clear hb3 hd3
            go_wp2_with fail
            refine hK.out _ _ trivial (fun hHeld => ?_)
            clear hK K
            try simp only [Act.put, List.getElem_toArray, List.getElem_cons_zero, List.getElem_cons_succ, List.setIfInBounds_toArray, List.set_cons_zero, List.set_cons_succ]
            have nePQ : P ≠ Q := Ne.symm ne
            refine wpAnyH_ready (rs := [10]) (by kernel_rfl) (by simp) (AllReadyH.cons rfl (fun K hK => ?_) AllReadyH.nil)
            try simp only [List.getElem_toArray, List.getElem_cons_zero, List.getElem_cons_succ]
            refine if_wanted (by rfl) ?_
            refine wp_store_row _ _ _ rfl P (nums x).toArray rfl rfl 24 _ HP4.out (by rw [row_size HX.out.1]; exact info32) (by rw [zs32_size, row_size HX.out.1]) (all_nums x) ?_
            refine hK.out _ _ trivial (fun hHeld => ?_)
            clear hK K
            try simp only [Act.put, List.getElem_toArray, List.getElem_cons_zero, List.getElem_cons_succ, List.setIfInBounds_toArray, List.set_cons_zero, List.set_cons_succ]
            have HP5 := Lib.hid (HP4.out.row (nums x).toArray)
            have HQ5 := Lib.hid (HQ4.out.rowFar (b := P) (Ne.symm nePQ) (nums x).toArray)
            have HB5 := Lib.hid (below_row HB4.out (g := P) geP (nums x).toArray)
            refine wpAnyH_ready (rs := [11]) (by kernel_rfl) (by simp) (AllReadyH.cons rfl (fun K hK => ?_) AllReadyH.nil)
            try simp only [List.getElem_toArray, List.getElem_cons_zero, List.getElem_cons_succ]
            refine if_wanted (by rfl) ?_
            refine wp_store_row _ _ _ rfl Q (nums y).toArray rfl rfl 24 _ HQ5.out (by rw [row_size HX.out.2.1]; exact info32) (by rw [zs32_size, row_size HX.out.2.1]) (all_nums y) ?_
            refine hK.out _ _ trivial (fun hHeld => ?_)
            clear hK K
            try simp only [Act.put, List.getElem_toArray, List.getElem_cons_zero, List.getElem_cons_succ, List.setIfInBounds_toArray, List.set_cons_zero, List.set_cons_succ]
            have HQ6 := Lib.hid (HQ5.out.row (nums y).toArray)
            have HP6 := Lib.hid (HP5.out.rowFar (b := Q) nePQ (nums y).toArray)
            have HB6 := Lib.hid (below_row HB5.out (g := Q) geQ (nums y).toArray)
            refine wpAnyH_done (by kernel_rfl) ?_ _
            go_wp2_with fail
            go_meet
            exact ⟨P, Q, rfl, rfl, Lib.hid ⟨HP6.out, HQ6.out, geP, geQ, HB6.out⟩⟩
    · skip
      try simp only [List.getElem_toArray, List.getElem_cons_zero, List.getElem_cons_succ]
      go_simp
      rw [zero32z]
      have HP1 := Lib.hid (Whole.new v0 24 (nums (zs 32)).toArray)
      have geP : B + 1 ≤ v0.heap.size := Nat.le_trans z0 HB0.out.size
      have HB1 : Hid (Below (B + 1) w0 (v0.alloc (.cells (nums (zs 32)).toArray 24))) := Lib.hid (HB0.out.alloc geP _)
      refine hK.out _ _ trivial (fun hHeld => ?_)
      clear hK K
      try simp only [Act.put, List.getElem_toArray, List.getElem_cons_zero, List.getElem_cons_succ, List.setIfInBounds_toArray, List.set_cons_zero, List.set_cons_succ]
      generalize v0.alloc (.cells (nums (zs 32)).toArray 24) = v1 at *
      generalize v0.heap.size = P at *
      refine wpAnyH_ready (rs := [3, 9]) (by kernel_rfl) (by simp) (AllReadyH.cons rfl (fun K hK => ?_) (AllReadyH.cons rfl (fun K hK => ?_) AllReadyH.nil))
      · skip
        have hd1 := HA.out.below (HV.out v1 HB1.out) (fun b _ h => h)
        try simp only [List.getElem_toArray, List.getElem_cons_zero, List.getElem_cons_succ]
        go_simp
        go_at_call 14
        refine (IH.out p (by omega) hd1 (HR.out.below (HV.out v1 HB1.out) (by omega)) (by omega) (by omega)).mono ?_
        rintro e v2 ⟨rfl, hb1⟩
        rw [HXE.out]
        have HB2 : Hid (Below (B + 1) w0 v2) := Lib.hid (HB1.out.trans (hb1.mono (Nat.le_trans z0 HB1.out.size)))
        have HP2 := Lib.hid (HP1.out.below hb1 HP1.out.lt)
        clear hb1 hd1
        go_wp2_with fail
        refine hK.out _ _ trivial (fun hHeld => ?_)
        clear hK K
        try simp only [Act.put, List.getElem_toArray, List.getElem_cons_zero, List.getElem_cons_succ, List.setIfInBounds_toArray, List.set_cons_zero, List.set_cons_succ]
        refine wpAnyH_ready (rs := [7, 9]) (by kernel_rfl) (by simp) (AllReadyH.cons rfl (fun K hK => ?_) (AllReadyH.cons rfl (fun K hK => ?_) AllReadyH.nil))
        · skip
          have hd2 := HC.out.below (HV.out v2 HB2.out) (fun b _ h => h)
          try simp only [List.getElem_toArray, List.getElem_cons_zero, List.getElem_cons_succ]
          go_simp
          go_at_call 14
          refine (IH.out (n - p) (by omega) hd2 (HR.out.below (HV.out v2 HB2.out) (by omega)) (by omega) (by omega)).mono ?_
          rintro e v3 ⟨rfl, hb2⟩
          rw [HYE.out]
          have HB3 : Hid (Below (B + 1) w0 v3) := Lib.hid (HB2.out.trans (hb2.mono (Nat.le_trans z0 HB2.out.size)))
          have HP3 := Lib.hid (HP2.out.below hb2 HP2.out.lt)
          clear hb2 hd2
          go_wp2_with fail
          refine hK.out _ _ trivial (fun hHeld => ?_)
          clear hK K
          try simp only [Act.put, List.getElem_toArray, List.getElem_cons_zero, List.getElem_cons_succ, List.setIfInBounds_toArray, List.set_cons_zero, List.set_cons_succ]
          refine wpAnyH_ready (rs := [9]) (by kernel_rfl) (by simp) (AllReadyH.cons rfl (fun K hK => ?_) AllReadyH.nil)
          · skip
            try simp only [List.getElem_toArray, List.getElem_cons_zero, List.getElem_cons_succ]
            go_simp
            rw [zero32z]
            have HQ4 := Lib.hid (Whole.new v3 24 (nums (zs 32)).toArray)
            have geQ : B + 1 ≤ v3.heap.size := Nat.le_trans z0 HB3.out.size
            have HB4 : Hid (Below (B + 1) w0 (v3.alloc (.cells (nums (zs 32)).toArray 24))) := Lib.hid (HB3.out.alloc geQ _)
            have HP4 := Lib.hid (HP3.out.alloc (.cells (nums (zs 32)).toArray 24))
            have ne : P ≠ v3.heap.size := Nat.ne_of_lt HP3.out.lt
            refine hK.out _ _ trivial (fun hHeld => ?_)
            clear hK K
            try simp only [Act.put, List.getElem_toArray, List.getElem_cons_zero, List.getElem_cons_succ, List.setIfInBounds_toArray, List.set_cons_zero, List.set_cons_succ]
            generalize v3.alloc (.cells (nums (zs 32)).toArray 24) = v4 at *
            generalize v3.heap.size = Q at *
            have nePQ : P ≠ Q := ne
            refine wpAnyH_ready (rs := [10]) (by kernel_rfl) (by simp) (AllReadyH.cons rfl (fun K hK => ?_) AllReadyH.nil)
            try simp only [List.getElem_toArray, List.getElem_cons_zero, List.getElem_cons_succ]
            refine if_wanted (by rfl) ?_
            refine wp_store_row _ _ _ rfl P (nums x).toArray rfl rfl 24 _ HP4.out (by rw [row_size HX.out.1]; exact info32) (by rw [zs32_size, row_size HX.out.1]) (all_nums x) ?_
            refine hK.out _ _ trivial (fun hHeld => ?_)
            clear hK K
            try simp only [Act.put, List.getElem_toArray, List.getElem_cons_zero, List.getElem_cons_succ, List.setIfInBounds_toArray, List.set_cons_zero, List.set_cons_succ]
            have HP5 := Lib.hid (HP4.out.row (nums x).toArray)
            have HQ5 := Lib.hid (HQ4.out.rowFar (b := P) (Ne.symm nePQ) (nums x).toArray)
            have HB5 := Lib.hid (below_row HB4.out (g := P) geP (nums x).toArray)
            refine wpAnyH_ready (rs := [11]) (by kernel_rfl) (by simp) (AllReadyH.cons rfl (fun K hK => ?_) AllReadyH.nil)
            try simp only [List.getElem_toArray, List.getElem_cons_zero, List.getElem_cons_succ]
            refine if_wanted (by rfl) ?_
            refine wp_store_row _ _ _ rfl Q (nums y).toArray rfl rfl 24 _ HQ5.out (by rw [row_size HX.out.2.1]; exact info32) (by rw [zs32_size, row_size HX.out.2.1]) (all_nums y) ?_
            refine hK.out _ _ trivial (fun hHeld => ?_)
            clear hK K
            try simp only [Act.put, List.getElem_toArray, List.getElem_cons_zero, List.getElem_cons_succ, List.setIfInBounds_toArray, List.set_cons_zero, List.set_cons_succ]
            have HQ6 := Lib.hid (HQ5.out.row (nums y).toArray)
            have HP6 := Lib.hid (HP5.out.rowFar (b := Q) nePQ (nums y).toArray)
            have HB6 := Lib.hid (below_row HB5.out (g := Q) geQ (nums y).toArray)
            refine wpAnyH_done (by kernel_rfl) ?_ _
            go_wp2_with fail
            go_meet
            exact ⟨P, Q, rfl, rfl, Lib.hid ⟨HP6.out, HQ6.out, geP, geQ, HB6.out⟩⟩
        · skip
          try simp only [List.getElem_toArray, List.getElem_cons_zero, List.getElem_cons_succ]
          go_simp
          rw [zero32z]
          have HQ3 := Lib.hid (Whole.new v2 24 (nums (zs 32)).toArray)
          have geQ : B + 1 ≤ v2.heap.size := Nat.le_trans z0 HB2.out.size
          have HB3 : Hid (Below (B + 1) w0 (v2.alloc (.cells (nums (zs 32)).toArray 24))) := Lib.hid (HB2.out.alloc geQ _)
          have HP3 := Lib.hid (HP2.out.alloc (.cells (nums (zs 32)).toArray 24))
          have ne : P ≠ v2.heap.size := Nat.ne_of_lt HP2.out.lt
          refine hK.out _ _ trivial (fun hHeld => ?_)
          clear hK K
          try simp only [Act.put, List.getElem_toArray, List.getElem_cons_zero, List.getElem_cons_succ, List.setIfInBounds_toArray, List.set_cons_zero, List.set_cons_succ]
          generalize v2.alloc (.cells (nums (zs 32)).toArray 24) = v3 at *
          generalize v2.heap.size = Q at *
          refine wpAnyH_ready (rs := [7]) (by kernel_rfl) (by simp) (AllReadyH.cons rfl (fun K hK => ?_) AllReadyH.nil)
          · skip
            have hd3 := HC.out.below (HV.out v3 HB3.out) (fun b _ h => h)
            try simp only [List.getElem_toArray, List.getElem_cons_zero, List.getElem_cons_succ]
            go_simp
            go_at_call 14
            refine (IH.out (n - p) (by omega) hd3 (HR.out.below (HV.out v3 HB3.out) (by omega)) (by omega) (by omega)).mono ?_
            rintro e v4 ⟨rfl, hb3⟩
            rw [HYE.out]
            have HB4 : Hid (Below (B + 1) w0 v4) := Lib.hid (HB3.out.trans (hb3.mono (Nat.le_trans z0 HB3.out.size)))
            have HP4 := Lib.hid (HP3.out.below hb3 HP3.out.lt)
            have HQ4 := Lib.hid (HQ3.out.below hb3 HQ3.out.lt)
            clear hb3 hd3
            go_wp2_with fail
            refine hK.out _ _ trivial (fun hHeld => ?_)
            clear hK K
            try simp only [Act.put, List.getElem_toArray, List.getElem_cons_zero, List.getElem_cons_succ, List.setIfInBounds_toArray, List.set_cons_zero, List.set_cons_succ]
            have nePQ : P ≠ Q := ne
            refine wpAnyH_ready (rs := [10]) (by kernel_rfl) (by simp) (AllReadyH.cons rfl (fun K hK => ?_) AllReadyH.nil)
            try simp only [List.getElem_toArray, List.getElem_cons_zero, List.getElem_cons_succ]
            refine if_wanted (by rfl) ?_
            refine wp_store_row _ _ _ rfl P (nums x).toArray rfl rfl 24 _ HP4.out (by rw [row_size HX.out.1]; exact info32) (by rw [zs32_size, row_size HX.out.1]) (all_nums x) ?_
            refine hK.out _ _ trivial (fun hHeld => ?_)
            clear hK K
            try simp only [Act.put, List.getElem_toArray, List.getElem_cons_zero, List.getElem_cons_succ, List.setIfInBounds_toArray, List.set_cons_zero, List.set_cons_succ]
            have HP5 := Lib.hid (HP4.out.row (nums x).toArray)
            have HQ5 := Lib.hid (HQ4.out.rowFar (b := P) (Ne.symm nePQ) (nums x).toArray)
            have HB5 := Lib.hid (below_row HB4.out (g := P) geP (nums x).toArray)
            refine wpAnyH_ready (rs := [11]) (by kernel_rfl) (by simp) (AllReadyH.cons rfl (fun K hK => ?_) AllReadyH.nil)
            try simp only [List.getElem_toArray, List.getElem_cons_zero, List.getElem_cons_succ]
            refine if_wanted (by rfl) ?_
            refine wp_store_row _ _ _ rfl Q (nums y).toArray rfl rfl 24 _ HQ5.out (by rw [row_size HX.out.2.1]; exact info32) (by rw [zs32_size, row_size HX.out.2.1]) (all_nums y) ?_
            refine hK.out _ _ trivial (fun hHeld => ?_)
            clear hK K
            try simp only [Act.put, List.getElem_toArray, List.getElem_cons_zero, List.getElem_cons_succ, List.setIfInBounds_toArray, List.set_cons_zero, List.set_cons_succ]
            have HQ6 := Lib.hid (HQ5.out.row (nums y).toArray)
            have HP6 := Lib.hid (HP5.out.rowFar (b := Q) nePQ (nums y).toArray)
            have HB6 := Lib.hid (below_row HB5.out (g := Q) geQ (nums y).toArray)
            refine wpAnyH_done (by kernel_rfl) ?_ _
            go_wp2_with fail
            go_meet
            exact ⟨P, Q, rfl, rfl, Lib.hid ⟨HP6.out, HQ6.out, geP, geQ, HB6.out⟩⟩
      · skip
        try simp only [List.getElem_toArray, List.getElem_cons_zero, List.getElem_cons_succ]
        go_simp
        rw [zero32z]
        have HQ2 := Lib.hid (Whole.new v1 24 (nums (zs 32)).toArray)
        have geQ : B + 1 ≤ v1.heap.size := Nat.le_trans z0 HB1.out.size
        have HB2 : Hid (Below (B + 1) w0 (v1.alloc (.cells (nums (zs 32)).toArray 24))) := Lib.hid (HB1.out.alloc geQ _)
        have HP2 := Lib.hid (HP1.out.alloc (.cells (nums (zs 32)).toArray 24))
        have ne : P ≠ v1.heap.size := Nat.ne_of_lt HP1.out.lt
        refine hK.out _ _ trivial (fun hHeld => ?_)
        clear hK K
        try simp only [Act.put, List.getElem_toArray, List.getElem_cons_zero, List.getElem_cons_succ, List.setIfInBounds_toArray, List.set_cons_zero, List.set_cons_succ]
        generalize v1.alloc (.cells (nums (zs 32)).toArray 24) = v2 at *
        generalize v1.heap.size = Q at *
        refine wpAnyH_ready (rs := [3]) (by kernel_rfl) (by simp) (AllReadyH.cons rfl (fun K hK => ?_) AllReadyH.nil)
        · skip
          have hd2 := HA.out.below (HV.out v2 HB2.out) (fun b _ h => h)
          try simp only [List.getElem_toArray, List.getElem_cons_zero, List.getElem_cons_succ]
          go_simp
          go_at_call 14
          refine (IH.out p (by omega) hd2 (HR.out.below (HV.out v2 HB2.out) (by omega)) (by omega) (by omega)).mono ?_
          rintro e v3 ⟨rfl, hb2⟩
          rw [HXE.out]
          have HB3 : Hid (Below (B + 1) w0 v3) := Lib.hid (HB2.out.trans (hb2.mono (Nat.le_trans z0 HB2.out.size)))
          have HP3 := Lib.hid (HP2.out.below hb2 HP2.out.lt)
          have HQ3 := Lib.hid (HQ2.out.below hb2 HQ2.out.lt)
          clear hb2 hd2
          go_wp2_with fail
          refine hK.out _ _ trivial (fun hHeld => ?_)
          clear hK K
          try simp only [Act.put, List.getElem_toArray, List.getElem_cons_zero, List.getElem_cons_succ, List.setIfInBounds_toArray, List.set_cons_zero, List.set_cons_succ]
          refine wpAnyH_ready (rs := [7]) (by kernel_rfl) (by simp) (AllReadyH.cons rfl (fun K hK => ?_) AllReadyH.nil)
          · skip
            have hd3 := HC.out.below (HV.out v3 HB3.out) (fun b _ h => h)
            try simp only [List.getElem_toArray, List.getElem_cons_zero, List.getElem_cons_succ]
            go_simp
            go_at_call 14
            refine (IH.out (n - p) (by omega) hd3 (HR.out.below (HV.out v3 HB3.out) (by omega)) (by omega) (by omega)).mono ?_
            rintro e v4 ⟨rfl, hb3⟩
            rw [HYE.out]
            have HB4 : Hid (Below (B + 1) w0 v4) := Lib.hid (HB3.out.trans (hb3.mono (Nat.le_trans z0 HB3.out.size)))
            have HP4 := Lib.hid (HP3.out.below hb3 HP3.out.lt)
            have HQ4 := Lib.hid (HQ3.out.below hb3 HQ3.out.lt)
            clear hb3 hd3
            go_wp2_with fail
            refine hK.out _ _ trivial (fun hHeld => ?_)
            clear hK K
            try simp only [Act.put, List.getElem_toArray, List.getElem_cons_zero, List.getElem_cons_succ, List.setIfInBounds_toArray, List.set_cons_zero, List.set_cons_succ]
            have nePQ : P ≠ Q := ne
            refine wpAnyH_ready (rs := [10]) (by kernel_rfl) (by simp) (AllReadyH.cons rfl (fun K hK => ?_) AllReadyH.nil)
            try simp only [List.getElem_toArray, List.getElem_cons_zero, List.getElem_cons_succ]
            refine if_wanted (by rfl) ?_
            refine wp_store_row _ _ _ rfl P (nums x).toArray rfl rfl 24 _ HP4.out (by rw [row_size HX.out.1]; exact info32) (by rw [zs32_size, row_size HX.out.1]) (all_nums x) ?_
            refine hK.out _ _ trivial (fun hHeld => ?_)
            clear hK K
            try simp only [Act.put, List.getElem_toArray, List.getElem_cons_zero, List.getElem_cons_succ, List.setIfInBounds_toArray, List.set_cons_zero, List.set_cons_succ]
            have HP5 := Lib.hid (HP4.out.row (nums x).toArray)
            have HQ5 := Lib.hid (HQ4.out.rowFar (b := P) (Ne.symm nePQ) (nums x).toArray)
            have HB5 := Lib.hid (below_row HB4.out (g := P) geP (nums x).toArray)
            refine wpAnyH_ready (rs := [11]) (by kernel_rfl) (by simp) (AllReadyH.cons rfl (fun K hK => ?_) AllReadyH.nil)
            try simp only [List.getElem_toArray, List.getElem_cons_zero, List.getElem_cons_succ]
            refine if_wanted (by rfl) ?_
            refine wp_store_row _ _ _ rfl Q (nums y).toArray rfl rfl 24 _ HQ5.out (by rw [row_size HX.out.2.1]; exact info32) (by rw [zs32_size, row_size HX.out.2.1]) (all_nums y) ?_
            refine hK.out _ _ trivial (fun hHeld => ?_)
            clear hK K
            try simp only [Act.put, List.getElem_toArray, List.getElem_cons_zero, List.getElem_cons_succ, List.setIfInBounds_toArray, List.set_cons_zero, List.set_cons_succ]
            have HQ6 := Lib.hid (HQ5.out.row (nums y).toArray)
            have HP6 := Lib.hid (HP5.out.rowFar (b := Q) nePQ (nums y).toArray)
            have HB6 := Lib.hid (below_row HB5.out (g := Q) geQ (nums y).toArray)
            refine wpAnyH_done (by kernel_rfl) ?_ _
            go_wp2_with fail
            go_meet
            exact ⟨P, Q, rfl, rfl, Lib.hid ⟨HP6.out, HQ6.out, geP, geQ, HB6.out⟩⟩
    · skip
      try simp only [List.getElem_toArray, List.getElem_cons_zero, List.getElem_cons_succ]
      go_simp
      rw [zero32z]
      have HQ1 := Lib.hid (Whole.new v0 24 (nums (zs 32)).toArray)
      have geQ : B + 1 ≤ v0.heap.size := Nat.le_trans z0 HB0.out.size
      have HB1 : Hid (Below (B + 1) w0 (v0.alloc (.cells (nums (zs 32)).toArray 24))) := Lib.hid (HB0.out.alloc geQ _)
      refine hK.out _ _ trivial (fun hHeld => ?_)
      clear hK K
      try simp only [Act.put, List.getElem_toArray, List.getElem_cons_zero, List.getElem_cons_succ, List.setIfInBounds_toArray, List.set_cons_zero, List.set_cons_succ]
      generalize v0.alloc (.cells (nums (zs 32)).toArray 24) = v1 at *
      generalize v0.heap.size = Q at *
      refine wpAnyH_ready (rs := [3, 8]) (by kernel_rfl) (by simp) (AllReadyH.cons rfl (fun K hK => ?_) (AllReadyH.cons rfl (fun K hK => ?_) AllReadyH.nil))
      · skip
        have hd1 := HA.out.below (HV.out v1 HB1.out) (fun b _ h => h)
        try simp only [List.getElem_toArray, List.getElem_cons_zero, List.getElem_cons_succ]
        go_simp
        go_at_call 14
        refine (IH.out p (by omega) hd1 (HR.out.below (HV.out v1 HB1.out) (by omega)) (by omega) (by omega)).mono ?_
        rintro e v2 ⟨rfl, hb1⟩
        rw [HXE.out]
        have HB2 : Hid (Below (B + 1) w0 v2) := Lib.hid (HB1.out.trans (hb1.mono (Nat.le_trans z0 HB1.out.size)))
        have HQ2 := Lib.hid (HQ1.out.below hb1 HQ1.out.lt)
        clear hb1 hd1
        go_wp2_with fail
        refine hK.out _ _ trivial (fun hHeld => ?_)
        clear hK K
        try simp only [Act.put, List.getElem_toArray, List.getElem_cons_zero, List.getElem_cons_succ, List.setIfInBounds_toArray, List.set_cons_zero, List.set_cons_succ]
        refine wpAnyH_ready (rs := [7, 8]) (by kernel_rfl) (by simp) (AllReadyH.cons rfl (fun K hK => ?_) (AllReadyH.cons rfl (fun K hK => ?_) AllReadyH.nil))
        · skip
          have hd2 := HC.out.below (HV.out v2 HB2.out) (fun b _ h => h)
          try simp only [List.getElem_toArray, List.getElem_cons_zero, List.getElem_cons_succ]
          go_simp
          go_at_call 14
          refine (IH.out (n - p) (by omega) hd2 (HR.out.below (HV.out v2 HB2.out) (by omega)) (by omega) (by omega)).mono ?_
          rintro e v3 ⟨rfl, hb2⟩
          rw [HYE.out]
          have HB3 : Hid (Below (B + 1) w0 v3) := Lib.hid (HB2.out.trans (hb2.mono (Nat.le_trans z0 HB2.out.size)))
          have HQ3 := Lib.hid (HQ2.out.below hb2 HQ2.out.lt)
          clear hb2 hd2
          go_wp2_with fail
          refine hK.out _ _ trivial (fun hHeld => ?_)
          clear hK K
          try simp only [Act.put, List.getElem_toArray, List.getElem_cons_zero, List.getElem_cons_succ, List.setIfInBounds_toArray, List.set_cons_zero, List.set_cons_succ]
          refine wpAnyH_ready (rs := [8]) (by kernel_rfl) (by simp) (AllReadyH.cons rfl (fun K hK => ?_) AllReadyH.nil)
          · skip
            try simp only [List.getElem_toArray, List.getElem_cons_zero, List.getElem_cons_succ]
            go_simp
            rw [zero32z]
            have HP4 := Lib.hid (Whole.new v3 24 (nums (zs 32)).toArray)
            have geP : B + 1 ≤ v3.heap.size := Nat.le_trans z0 HB3.out.size
            have HB4 : Hid (Below (B + 1) w0 (v3.alloc (.cells (nums (zs 32)).toArray 24))) := Lib.hid (HB3.out.alloc geP _)
            have HQ4 := Lib.hid (HQ3.out.alloc (.cells (nums (zs 32)).toArray 24))
            have ne : Q ≠ v3.heap.size := Nat.ne_of_lt HQ3.out.lt
            refine hK.out _ _ trivial (fun hHeld => ?_)
            clear hK K
            try simp only [Act.put, List.getElem_toArray, List.getElem_cons_zero, List.getElem_cons_succ, List.setIfInBounds_toArray, List.set_cons_zero, List.set_cons_succ]
            generalize v3.alloc (.cells (nums (zs 32)).toArray 24) = v4 at *
            generalize v3.heap.size = P at *
            have nePQ : P ≠ Q := Ne.symm ne
            refine wpAnyH_ready (rs := [10]) (by kernel_rfl) (by simp) (AllReadyH.cons rfl (fun K hK => ?_) AllReadyH.nil)
            try simp only [List.getElem_toArray, List.getElem_cons_zero, List.getElem_cons_succ]
            refine if_wanted (by rfl) ?_
            refine wp_store_row _ _ _ rfl P (nums x).toArray rfl rfl 24 _ HP4.out (by rw [row_size HX.out.1]; exact info32) (by rw [zs32_size, row_size HX.out.1]) (all_nums x) ?_
            refine hK.out _ _ trivial (fun hHeld => ?_)
            clear hK K
            try simp only [Act.put, List.getElem_toArray, List.getElem_cons_zero, List.getElem_cons_succ, List.setIfInBounds_toArray, List.set_cons_zero, List.set_cons_succ]
            have HP5 := Lib.hid (HP4.out.row (nums x).toArray)
            have HQ5 := Lib.hid (HQ4.out.rowFar (b := P) (Ne.symm nePQ) (nums x).toArray)
            have HB5 := Lib.hid (below_row HB4.out (g := P) geP (nums x).toArray)
            refine wpAnyH_ready (rs := [11]) (by kernel_rfl) (by simp) (AllReadyH.cons rfl (fun K hK => ?_) AllReadyH.nil)
            try simp only [List.getElem_toArray, List.getElem_cons_zero, List.getElem_cons_succ]
            refine if_wanted (by rfl) ?_
            refine wp_store_row _ _ _ rfl Q (nums y).toArray rfl rfl 24 _ HQ5.out (by rw [row_size HX.out.2.1]; exact info32) (by rw [zs32_size, row_size HX.out.2.1]) (all_nums y) ?_
            refine hK.out _ _ trivial (fun hHeld => ?_)
            clear hK K
            try simp only [Act.put, List.getElem_toArray, List.getElem_cons_zero, List.getElem_cons_succ, List.setIfInBounds_toArray, List.set_cons_zero, List.set_cons_succ]
            have HQ6 := Lib.hid (HQ5.out.row (nums y).toArray)
            have HP6 := Lib.hid (HP5.out.rowFar (b := Q) nePQ (nums y).toArray)
            have HB6 := Lib.hid (below_row HB5.out (g := Q) geQ (nums y).toArray)
            refine wpAnyH_done (by kernel_rfl) ?_ _
            go_wp2_with fail
            go_meet
            exact ⟨P, Q, rfl, rfl, Lib.hid ⟨HP6.out, HQ6.out, geP, geQ, HB6.out⟩⟩
        · skip
          try simp only [List.getElem_toArray, List.getElem_cons_zero, List.getElem_cons_succ]
          go_simp
          rw [zero32z]
          have HP3 := Lib.hid (Whole.new v2 24 (nums (zs 32)).toArray)
          have geP : B + 1 ≤ v2.heap.size := Nat.le_trans z0 HB2.out.size
          have HB3 : Hid (Below (B + 1) w0 (v2.alloc (.cells (nums (zs 32)).toArray 24))) := Lib.hid (HB2.out.alloc geP _)
          have HQ3 := Lib.hid (HQ2.out.alloc (.cells (nums (zs 32)).toArray 24))
          have ne : Q ≠ v2.heap.size := Nat.ne_of_lt HQ2.out.lt
          refine hK.out _ _ trivial (fun hHeld => ?_)
          clear hK K
          try simp only [Act.put, List.getElem_toArray, List.getElem_cons_zero, List.getElem_cons_succ, List.setIfInBounds_toArray, List.set_cons_zero, List.set_cons_succ]
          generalize v2.alloc (.cells (nums (zs 32)).toArray 24) = v3 at *
          generalize v2.heap.size = P at *
          refine wpAnyH_ready (rs := [7]) (by kernel_rfl) (by simp) (AllReadyH.cons rfl (fun K hK => ?_) AllReadyH.nil)
          · skip
            have hd3 := HC.out.below (HV.out v3 HB3.out) (fun b _ h => h)
            try simp only [List.getElem_toArray, List.getElem_cons_zero, List.getElem_cons_succ]
            go_simp
            go_at_call 14
            refine (IH.out (n - p) (by omega) hd3 (HR.out.below (HV.out v3 HB3.out) (by omega)) (by omega) (by omega)).mono ?_
            rintro e v4 ⟨rfl, hb3⟩
            rw [HYE.out]
            have HB4 : Hid (Below (B + 1) w0 v4) := Lib.hid (HB3.out.trans (hb3.mono (Nat.le_trans z0 HB3.out.size)))
            have HP4 := Lib.hid (HP3.out.below hb3 HP3.out.lt)
            have HQ4 := Lib.hid (HQ3.out.below hb3 HQ3.out.lt)
            clear hb3 hd3
            go_wp2_with fail
            refine hK.out _ _ trivial (fun hHeld => ?_)
            clear hK K
            try simp only [Act.put, List.getElem_toArray, List.getElem_cons_zero, List.getElem_cons_succ, List.setIfInBounds_toArray, List.set_cons_zero, List.set_cons_succ]
            have nePQ : P ≠ Q := Ne.symm ne
            refine wpAnyH_ready (rs := [10]) (by kernel_rfl) (by simp) (AllReadyH.cons rfl (fun K hK => ?_) AllReadyH.nil)
            try simp only [List.getElem_toArray, List.getElem_cons_zero, List.getElem_cons_succ]
            refine if_wanted (by rfl) ?_
            refine wp_store_row _ _ _ rfl P (nums x).toArray rfl rfl 24 _ HP4.out (by rw [row_size HX.out.1]; exact info32) (by rw [zs32_size, row_size HX.out.1]) (all_nums x) ?_
            refine hK.out _ _ trivial (fun hHeld => ?_)
            clear hK K
            try simp only [Act.put, List.getElem_toArray, List.getElem_cons_zero, List.getElem_cons_succ, List.setIfInBounds_toArray, List.set_cons_zero, List.set_cons_succ]
            have HP5 := Lib.hid (HP4.out.row (nums x).toArray)
            have HQ5 := Lib.hid (HQ4.out.rowFar (b := P) (Ne.symm nePQ) (nums x).toArray)
            have HB5 := Lib.hid (below_row HB4.out (g := P) geP (nums x).toArray)
            refine wpAnyH_ready (rs := [11]) (by kernel_rfl) (by simp) (AllReadyH.cons rfl (fun K hK => ?_) AllReadyH.nil)
            try simp only [List.getElem_toArray, List.getElem_cons_zero, List.getElem_cons_succ]
            refine if_wanted (by rfl) ?_
            refine wp_store_row _ _ _ rfl Q (nums y).toArray rfl rfl 24 _ HQ5.out (by rw [row_size HX.out.2.1]; exact info32) (by rw [zs32_size, row_size HX.out.2.1]) (all_nums y) ?_
            refine hK.out _ _ trivial (fun hHeld => ?_)
            clear hK K
            try simp only [Act.put, List.getElem_toArray, List.getElem_cons_zero, List.getElem_cons_succ, List.setIfInBounds_toArray, List.set_cons_zero, List.set_cons_succ]
            have HQ6 := Lib.hid (HQ5.out.row (nums y).toArray)
            have HP6 := Lib.hid (HP5.out.rowFar (b := Q) nePQ (nums y).toArray)
            have HB6 := Lib.hid (below_row HB5.out (g := Q) geQ (nums y).toArray)
            refine wpAnyH_done (by kernel_rfl) ?_ _
            go_wp2_with fail
            go_meet
            exact ⟨P, Q, rfl, rfl, Lib.hid ⟨HP6.out, HQ6.out, geP, geQ, HB6.out⟩⟩
      · skip
        try simp only [List.getElem_toArray, List.getElem_cons_zero, List.getElem_cons_succ]
        go_simp
        rw [zero32z]
        have HP2 := Lib.hid (Whole.new v1 24 (nums (zs 32)).toArray)
        have geP : B + 1 ≤ v1.heap.size := Nat.le_trans z0 HB1.out.size
        have HB2 : Hid (Below (B + 1) w0 (v1.alloc (.cells (nums (zs 32)).toArray 24))) := Lib.hid (HB1.out.alloc geP _)
        have HQ2 := Lib.hid (HQ1.out.alloc (.cells (nums (zs 32)).toArray 24))
        have ne : Q ≠ v1.heap.size := Nat.ne_of_lt HQ1.out.lt
        refine hK.out _ _ trivial (fun hHeld => ?_)
        clear hK K
        try simp only [Act.put, List.getElem_toArray, List.getElem_cons_zero, List.getElem_cons_succ, List.setIfInBounds_toArray, List.set_cons_zero, List.set_cons_succ]
        generalize v1.alloc (.cells (nums (zs 32)).toArray 24) = v2 at *
        generalize v1.heap.size = P at *
        refine wpAnyH_ready (rs := [3]) (by kernel_rfl) (by simp) (AllReadyH.cons rfl (fun K hK => ?_) AllReadyH.nil)
        · skip
          have hd2 := HA.out.below (HV.out v2 HB2.out) (fun b _ h => h)
          try simp only [List.getElem_toArray, List.getElem_cons_zero, List.getElem_cons_succ]
          go_simp
          go_at_call 14
          refine (IH.out p (by omega) hd2 (HR.out.below (HV.out v2 HB2.out) (by omega)) (by omega) (by omega)).mono ?_
          rintro e v3 ⟨rfl, hb2⟩
          rw [HXE.out]
          have HB3 : Hid (Below (B + 1) w0 v3) := Lib.hid (HB2.out.trans (hb2.mono (Nat.le_trans z0 HB2.out.size)))
          have HP3 := Lib.hid (HP2.out.below hb2 HP2.out.lt)
          have HQ3 := Lib.hid (HQ2.out.below hb2 HQ2.out.lt)
          clear hb2 hd2
          go_wp2_with fail
          refine hK.out _ _ trivial (fun hHeld => ?_)
          clear hK K
          try simp only [Act.put, List.getElem_toArray, List.getElem_cons_zero, List.getElem_cons_succ, List.setIfInBounds_toArray, List.set_cons_zero, List.set_cons_succ]
          refine wpAnyH_ready (rs := [7]) (by kernel_rfl) (by simp) (AllReadyH.cons rfl (fun K hK => ?_) AllReadyH.nil)
          · skip
            have hd3 := HC.out.below (HV.out v3 HB3.out) (fun b _ h => h)
            try simp only [List.getElem_toArray, List.getElem_cons_zero, List.getElem_cons_succ]
            go_simp
            go_at_call 14
            refine (IH.out (n - p) (by omega) hd3 (HR.out.below (HV.out v3 HB3.out) (by omega)) (by omega) (by omega)).mono ?_
            rintro e v4 ⟨rfl, hb3⟩
            rw [HYE.out]
            have HB4 : Hid (Below (B + 1) w0 v4) := Lib.hid (HB3.out.trans (hb3.mono (Nat.le_trans z0 HB3.out.size)))
            have HP4 := Lib.hid (HP3.out.below hb3 HP3.out.lt)
            have HQ4 := Lib.hid (HQ3.out.below hb3 HQ3.out.lt)
            clear hb3 hd3
            go_wp2_with fail
            refine hK.out _ _ trivial (fun hHeld => ?_)
            clear hK K
            try simp only [Act.put, List.getElem_toArray, List.getElem_cons_zero, List.getElem_cons_succ, List.setIfInBounds_toArray, List.set_cons_zero, List.set_cons_succ]
            have nePQ : P ≠ Q := Ne.symm ne
            refine wpAnyH_ready (rs := [10]) (by kernel_rfl) (by simp) (AllReadyH.cons rfl (fun K hK => ?_) AllReadyH.nil)
            try simp only [List.getElem_toArray, List.getElem_cons_zero, List.getElem_cons_succ]
            refine if_wanted (by rfl) ?_
            refine wp_store_row _ _ _ rfl P (nums x).toArray rfl rfl 24 _ HP4.out (by rw [row_size HX.out.1]; exact info32) (by rw [zs32_size, row_size HX.out.1]) (all_nums x) ?_
            refine hK.out _ _ trivial (fun hHeld => ?_)
            clear hK K
            try simp only [Act.put, List.getElem_toArray, List.getElem_cons_zero, List.getElem_cons_succ, List.setIfInBounds_toArray, List.set_cons_zero, List.set_cons_succ]
            have HP5 := Lib.hid (HP4.out.row (nums x).toArray)
            have HQ5 := Lib.hid (HQ4.out.rowFar (b := P) (Ne.symm nePQ) (nums x).toArray)
            have HB5 := Lib.hid (below_row HB4.out (g := P) geP (nums x).toArray)
            refine wpAnyH_ready (rs := [11]) (by kernel_rfl) (by simp) (AllReadyH.cons rfl (fun K hK => ?_) AllReadyH.nil)
            try simp only [List.getElem_toArray, List.getElem_cons_zero, List.getElem_cons_succ]
            refine if_wanted (by rfl) ?_
            refine wp_store_row _ _ _ rfl Q (nums y).toArray rfl rfl 24 _ HQ5.out (by rw [row_size HX.out.2.1]; exact info32) (by rw [zs32_size, row_size HX.out.2.1]) (all_nums y) ?_
            refine hK.out _ _ trivial (fun hHeld => ?_)
            clear hK K
            try simp only [Act.put, List.getElem_toArray, List.getElem_cons_zero, List.getElem_cons_succ, List.setIfInBounds_toArray, List.set_cons_zero, List.set_cons_succ]
            have HQ6 := Lib.hid (HQ5.out.row (nums y).toArray)
            have HP6 := Lib.hid (HP5.out.rowFar (b := Q) nePQ (nums y).toArray)
            have HB6 := Lib.hid (below_row HB5.out (g := Q) geQ (nums y).toArray)
            refine wpAnyH_done (by kernel_rfl) ?_ _
            go_wp2_with fail
            go_meet
            exact ⟨P, Q, rfl, rfl, Lib.hid ⟨HP6.out, HQ6.out, geP, geQ, HB6.out⟩⟩
  case rest =>
    obtain ⟨P, Q, rfl, rfl, HH⟩ := hcut
    have K1 := Lib.hid (H0.out.1.below HH.out.2.2.2.2 (by omega))
    have HBW : Hid (Below B w wc) := Lib.hid (HV.out wc HH.out.2.2.2.2)
    have HPQ := Lib.hid (And.intro HH.out.1 HH.out.2.1)
    have zc : B + 1 ≤ wc.heap.size := Nat.le_trans z0 HH.out.2.2.2.2.size
    clear HH HV H0
    go_wp2_with fail
    refine wp_region_held_drew (S := fun _ => True) (by kernel_rfl) trivial (fun hHeld => ?_)
    have K2 : Hid (Whole wc.drew B 24 (nums (zs 32)).toArray) := Lib.hid K1.out
    have HPQ2 : Hid (Whole wc.drew P 24 (nums x).toArray ∧ Whole wc.drew Q 24 (nums y).toArray) := Lib.hid HPQ.out
    have HB2 : Hid (Below B w wc.drew) := Lib.hid HBW.out.drew
    have z2 : B + 1 ≤ wc.drew.heap.size := zc
    generalize wc.drew = v0 at *
    clear K1 HPQ HBW
    refine wpAnyH_take (i := 1) (v := .slice (some ⟨P, 0, none⟩) 32 32) rfl (by kernel_rfl) (by kernel_rfl) (by kernel_rfl) (fun _ _ _ h => h) (Or.inl ⟨by rfl, (by intro w hSw; (try dsimp only at hSw); go_simp)⟩) (by assumption) ?_
    try simp only [Act.put, List.getElem_toArray, List.getElem_cons_zero, List.getElem_cons_succ, List.setIfInBounds_toArray, List.set_cons_zero, List.set_cons_succ]
    refine wpAnyH_take (i := 2) (v := .slice (some ⟨Q, 0, none⟩) 32 32) rfl (by kernel_rfl) (by kernel_rfl) (by kernel_rfl) (fun _ _ _ h => h) (Or.inl ⟨by rfl, (by intro w hSw; (try dsimp only at hSw); go_simp)⟩) (by assumption) ?_
    try simp only [Act.put, List.getElem_toArray, List.getElem_cons_zero, List.getElem_cons_succ, List.setIfInBounds_toArray, List.set_cons_zero, List.set_cons_succ]
    refine wpAnyH_ready (rs := [0]) (by kernel_rfl) (by simp) (AllReadyH.cons rfl (fun K hK => ?_) AllReadyH.nil)
    try simp only [List.getElem_toArray, List.getElem_cons_zero, List.getElem_cons_succ]
    go_simp
    refine hK.out _ _ trivial (fun hHeld => ?_)
    clear hK K
    try simp only [Act.put, List.getElem_toArray, List.getElem_cons_zero, List.getElem_cons_succ, List.setIfInBounds_toArray, List.set_cons_zero, List.set_cons_succ]
    have o1 := Whole.new v0 5 #[.int .u8 1]
    have K3 := Lib.hid (K2.out.alloc (.cells #[.int .u8 1] 5))
    have HPQ3 := Lib.hid (And.intro (HPQ2.out.1.alloc (.cells #[.int .u8 1] 5)) (HPQ2.out.2.alloc (.cells #[.int .u8 1] 5)))
    have HB3 := Lib.hid (HB2.out.alloc (by omega) (.cells #[.int .u8 1] 5))
    have z3 : v0.heap.size < (v0.alloc (.cells #[.int .u8 1] 5)).heap.size := o1.lt
    generalize v0.alloc (.cells #[.int .u8 1] 5) = v1 at *
    generalize v0.heap.size = O at *
    have HO := Lib.hid o1
    clear o1 K2 HPQ2 HB2
    refine wpAnyH_ready (rs := [3]) (by kernel_rfl) (by simp) (AllReadyH.cons rfl (fun K hK => ?_) AllReadyH.nil)
    try simp only [List.getElem_toArray, List.getElem_cons_zero, List.getElem_cons_succ]
    go_simp
    refine hK.out _ _ trivial (fun hHeld => ?_)
    clear hK K
    try simp only [Act.put, List.getElem_toArray, List.getElem_cons_zero, List.getElem_cons_succ, List.setIfInBounds_toArray, List.set_cons_zero, List.set_cons_succ]
    have q1 := Whole.new v1 22 #[.slice (some ⟨O, 0, none⟩) 1 1, .slice (some ⟨P, 0, none⟩) 32 32, .slice (some ⟨Q, 0, none⟩) 32 32]
    have K4 := Lib.hid (K3.out.alloc (.cells #[.slice (some ⟨O, 0, none⟩) 1 1, .slice (some ⟨P, 0, none⟩) 32 32, .slice (some ⟨Q, 0, none⟩) 32 32] 22))
    have HPQ4 := Lib.hid (And.intro (HPQ3.out.1.alloc (.cells #[.slice (some ⟨O, 0, none⟩) 1 1, .slice (some ⟨P, 0, none⟩) 32 32, .slice (some ⟨Q, 0, none⟩) 32 32] 22)) (HPQ3.out.2.alloc (.cells #[.slice (some ⟨O, 0, none⟩) 1 1, .slice (some ⟨P, 0, none⟩) 32 32, .slice (some ⟨Q, 0, none⟩) 32 32] 22)))
    have HO4 := Lib.hid (HO.out.alloc (.cells #[.slice (some ⟨O, 0, none⟩) 1 1, .slice (some ⟨P, 0, none⟩) 32 32, .slice (some ⟨Q, 0, none⟩) 32 32] 22))
    have HB4 := Lib.hid (HB3.out.alloc (by omega) (.cells #[.slice (some ⟨O, 0, none⟩) 1 1, .slice (some ⟨P, 0, none⟩) 32 32, .slice (some ⟨Q, 0, none⟩) 32 32] 22))
    generalize v1.alloc (.cells #[.slice (some ⟨O, 0, none⟩) 1 1, .slice (some ⟨P, 0, none⟩) 32 32, .slice (some ⟨Q, 0, none⟩) 32 32] 22) = v2 at *
    generalize v1.heap.size = L at *
    have HQ := Lib.hid q1
    clear q1 K3 HPQ3 HB3 HO
    refine wpAnyH_ready (rs := [4]) (by kernel_rfl) (by simp) (AllReadyH.cons rfl (fun K hK => ?_) AllReadyH.nil)
    try simp only [List.getElem_toArray, List.getElem_cons_zero, List.getElem_cons_succ]
    go_simp
    go_at_call 10
    have hp := parts_three (S := fun _ => True) HQ.out trivial (txt_of_whole (fun _ => True) trivial (l := [1]) HO4.out (byt_cons (by omega) (by omega) byt_nil) 1 1 (by simp) (by omega)) (txt_dig HPQ4.out.1 HX.out.1) (txt_dig HPQ4.out.2 HX.out.2.1)
    refine (sum_any hp (HR.out.below HB4.out (by omega)) (by simp [HX.out.1.1, HX.out.2.1.1]) (by omega)).mono ?_
    rintro e v3 ⟨rfl, hb3⟩
    rw [show [List.take 1 [1], x, y].flatten = 1 :: (x ++ y) by simp, ← HT.out]
    have K5 := Lib.hid (K4.out.below hb3 K4.out.lt)
    have HB5 : Hid (Below B w v3) := Lib.hid (HB4.out.trans (hb3.mono (Nat.le_of_lt K4.out.lt)))
    clear hp hb3
    go_wp2_with fail
    refine hK.out _ _ trivial (fun hHeld => ?_)
    clear hK K
    try simp only [Act.put, List.getElem_toArray, List.getElem_cons_zero, List.getElem_cons_succ, List.setIfInBounds_toArray, List.set_cons_zero, List.set_cons_succ]
    refine wpAnyH_ready (rs := [5]) (by kernel_rfl) (by simp) (AllReadyH.cons rfl (fun K hK => ?_) AllReadyH.nil)
    try simp only [List.getElem_toArray, List.getElem_cons_zero, List.getElem_cons_succ]
    refine if_wanted (by rfl) ?_
    refine wp_store_row _ _ _ rfl B (nums res).toArray rfl rfl 24 _ K5.out (by rw [row_size HX.out.2.2]; exact info32) (by rw [zs32_size, row_size HX.out.2.2]) (all_nums res) ?_
    refine hK.out _ _ trivial (fun hHeld => ?_)
    clear hK K
    try simp only [Act.put, List.getElem_toArray, List.getElem_cons_zero, List.getElem_cons_succ, List.setIfInBounds_toArray, List.set_cons_zero, List.set_cons_succ]
    refine wpAnyH_done (by kernel_rfl) ?_ _
    go_wp2
    refine bodyPost_ret (results_one_cell rfl _ _ _ _ rfl (run_loadVar_row _ _ _ _ _ (0, 0) _ (K5.out.row (nums res).toArray) und32 rfl (by rw [row_size HX.out.2.2]; exact info32))) rfl ?_
    exact ⟨rfl, by rw [HBE.out]; exact below_row HB5.out (Nat.le_refl _) _⟩
end Go.Proofs.YtndiojiphoomgaaDoor
