/-
  The walk of Tree. (Made by tools/gen_tree.py.)
  Equality of two hashes.
  What came in: texts, digests, rows of digests; the two tables as they are laid.
-/
import Derived.Test.YtdjibhpjdhpcgaaDoorZi
import Derived.Deep.DeepCutAuto
import Derived.Test.YtdjibhpjdhpcgaaDoorTie
import Derived.Test.YtdjibhpjdhpcgaaDoorCards
import Derived.Deep.Slices
import Derived.ChangeSlices
import Derived.ChangeOld
import Derived.ProofKit
import Derived.LaidMore
import Derived.OpenShut
import Derived.Stop.Joined
namespace Go.Proofs.YtdjibhpjdhpcgaaDoor
set_option maxRecDepth 20000
open Go.RowKit
theorem row_size {d : List Int} (h : Dig d) : (nums d).toArray.size = 32 := by simp [nums_len, h.1]
theorem zs32_size : (nums (zs 32)).toArray.size = 32 := rfl
theorem txt_dig {w : World} {g : Nat} {d : List Int} (h : Whole w g 25 (nums d).toArray) (hd : Dig d) : Txt w (fun _ => True) (some ⟨g, 0, none⟩) 32 32 d := by
  have t := txt_of_whole (fun _ => True) trivial h hd.2 32 32 (by rw [hd.1]; omega) (by omega)
  rwa [List.take_of_length_le (by rw [hd.1]; omega)] at t
theorem tree_nil_walk {a : Option Addr} {c : Nat} {w : World} (hR : Roots w) :
    Calls Tryd.prog 42 #[.slice a 0 c] w fun e w' => e = .returned (.agg (nums (Sm.tree [])).toArray) ∧ Below w.heap.size w w' := by
  have HR := Lib.hid hR
  clear hR
  rw [tree_nil]
  go_enter Tryd.func42, Tryd.ntmps42
  go_wp2_with fail
  rw [zero32z]
  have k0 := Whole.new w 25 (nums (zs 32)).toArray
  have b0 := below_alloc w (.cells (nums (zs 32)).toArray 25)
  have r0 := HR.out.alloc (.cells (nums (zs 32)).toArray 25)
  generalize w.alloc (.cells (nums (zs 32)).toArray 25) = w0 at *
  refine (sum_any (S := fun _ => True) (n := 0) (ps := []) ⟨rfl, Or.inl rfl⟩ r0 (by simp) (by omega)).mono ?_
  rintro e w1 ⟨rfl, hb1⟩
  rw [show ([] : List (List Int)).flatten = [] from rfl]
  have K1 := Lib.hid (k0.below hb1 k0.lt)
  have B1 : Hid (Below w.heap.size w w1) := Lib.hid (b0.trans (hb1.mono (Nat.le_of_lt k0.lt)))
  clear k0 b0 r0 hb1
  have hNe := all_nums (Sm.dig [])
  have HNS := Lib.hid (row_size (dig_ok []))
  with_reducible generalize hN : (nums (Sm.dig [])).toArray = N at *
  go_wp2_with ((with_reducible show wpList _ _ _ ((⟨_, Op.store 25 _ _, _, _, _, _⟩ : Oper) :: _) _ _); refine wpList_store_row rfl _ (.tmp 2) (.tmp 10) rfl w.heap.size N rfl rfl 25 _ K1.out (by rw [HNS.out]; exact info32) (by rw [HNS.out]; rfl) hNe ?_)
  refine bodyPost_ret (results_one_cell rfl _ _ _ _ rfl (run_loadVar_row _ _ _ _ _ (0, 0) _ (K1.out.row N) und32 rfl (by rw [HNS.out]; exact info32))) rfl ?_
  exact ⟨by rw [hN], below_row B1.out (Nat.le_refl _) N⟩
theorem tree_one_walk {S : Nat → Prop} {a : Option Addr} {c : Nat} {d : List Int} {w : World} (h : Digs w S a 1 [d]) :
    Calls Tryd.prog 42 #[.slice a 1 c] w fun e w' => e = .returned (.agg (nums (Sm.tree [d])).toArray) ∧ Below w.heap.size w w' := by
  obtain ⟨_, hd, h4⟩ := h
  rcases h4 with h4 | ⟨b, off, rfl, _, hlt, hc⟩
  · cases h4
  have hdd := hd d (by simp)
  have r0 : w.rangeAt b off (nums d) := by have := hc 0 (by omega); simpa using this
  have HD := Lib.hid hdd
  have HR := Lib.hid (World.rangeAt_alloc r0 (.cells #[Value.int IntKind.u8 0, Value.int IntKind.u8 0, Value.int IntKind.u8 0, Value.int IntKind.u8 0, Value.int IntKind.u8 0, Value.int IntKind.u8 0, Value.int IntKind.u8 0, Value.int IntKind.u8 0, Value.int IntKind.u8 0, Value.int IntKind.u8 0, Value.int IntKind.u8 0, Value.int IntKind.u8 0, Value.int IntKind.u8 0, Value.int IntKind.u8 0, Value.int IntKind.u8 0, Value.int IntKind.u8 0, Value.int IntKind.u8 0, Value.int IntKind.u8 0, Value.int IntKind.u8 0, Value.int IntKind.u8 0, Value.int IntKind.u8 0, Value.int IntKind.u8 0, Value.int IntKind.u8 0, Value.int IntKind.u8 0, Value.int IntKind.u8 0, Value.int IntKind.u8 0, Value.int IntKind.u8 0, Value.int IntKind.u8 0, Value.int IntKind.u8 0, Value.int IntKind.u8 0, Value.int IntKind.u8 0, Value.int IntKind.u8 0] 25))
  have HL : Hid ((nums d).length = 32) := Lib.hid (by rw [nums_len, hdd.1])
  clear hd hdd r0 hc
  have hNe := all_nums d
  have HNS := Lib.hid (row_size HD.out)
  go_enter Tryd.func42, Tryd.ntmps42
  go_wp2_with (first
    | ((with_reducible show wpList _ _ _ ((⟨_, Op.load 25 _, _, _, _, _⟩ : Oper) :: _) _ _); refine wpList_load_mid rfl _ (.tmp 14) rfl b off rfl _ _ HR.out und32 rfl (by rw [HL.out]; exact info32) ?_)
    | ((with_reducible show wpList _ _ _ ((⟨_, Op.store 25 _ _, _, _, _, _⟩ : Oper) :: _) _ _); refine wpList_store_row rfl _ (.tmp 2) (.tmp 15) rfl w.heap.size (nums d).toArray rfl rfl 25 _ (Whole.new _ _ _) (by rw [HNS.out]; exact info32) (by rw [HNS.out]; rfl) hNe ?_))
  refine bodyPost_ret (results_one_cell rfl _ _ _ _ rfl (run_loadVar_row _ _ _ _ _ (0, 0) _ ((Whole.new w _ _).row (nums d).toArray) und32 rfl (by rw [HNS.out]; exact info32))) rfl ?_
  exact ⟨rfl, below_row (below_alloc _ _) (Nat.le_refl _) _⟩

set_option linter.unusedSimpArgs false in
set_option maxHeartbeats 8000000 in
theorem tree_walk (n : Nat) : ∀ {S : Nat → Prop} {a : Option Addr} {c : Nat} {l : List (List Int)} {w : World}, Digs w S a n l → Roots w → n ≤ c → n ≤ 200 →
    Calls Tryd.prog 42 #[.slice a n c] w fun e w' => e = .returned (.agg (nums (Sm.tree l)).toArray) ∧ Below w.heap.size w w' := by
  induction n using Nat.strongRecOn with
  | _ n ih0 =>
  intro S a c l w h hR hnc hn
  have IH : Hid (∀ m, m < n → ∀ {S : Nat → Prop} {a : Option Addr} {c : Nat} {l : List (List Int)} {w : World}, Digs w S a m l → Roots w → m ≤ c → m ≤ 200 → Calls Tryd.prog 42 #[.slice a m c] w fun e w' => e = .returned (.agg (nums (Sm.tree l)).toArray) ∧ Below w.heap.size w w') := Lib.hid ih0
  clear ih0
  by_cases h0 : n = 0
  · subst h0
    have : l = [] := List.eq_nil_of_length_eq_zero h.1
    subst this
    exact tree_nil_walk hR
  by_cases h1 : n = 1
  · subst h1
    obtain ⟨d, rfl⟩ : ∃ d, l = [d] := List.length_eq_one_iff.1 h.1
    exact tree_one_walk h
  have h2 : 2 ≤ n := by omega
  have hl : l.length = n := h.1
  have hp := pw_spec n h2
  obtain ⟨p, hpe⟩ : ∃ p, Sm.pw n = p := ⟨_, rfl⟩
  rw [hpe] at hp
  have HPE := Lib.hid hpe
  obtain ⟨hp1, hp2, hp3⟩ := hp
  have HT : Hid (Sm.tree l = Sm.dig (1 :: (Sm.tree (l.take p) ++ Sm.tree (l.drop p)))) := Lib.hid (by have := tree_more l (by omega); rw [hl, hpe] at this; exact this)
  have HX : Hid (Dig (Sm.tree (l.take p)) ∧ Dig (Sm.tree (l.drop p)) ∧ Dig (Sm.tree l)) := Lib.hid ⟨tree_ok _ (fun d hd => h.2.1 d (List.mem_of_mem_take hd)), tree_ok _ (fun d hd => h.2.1 d (List.mem_of_mem_drop hd)), tree_ok _ h.2.1⟩
  have HA := Lib.hid (h.old.take p (by omega))
  have hB2 := hR.two
  have HR := Lib.hid hR
  obtain ⟨A, hslo, HC⟩ : ∃ A, (∀ w, (Instr.slice 24 (.slice a n c) (some (.int .i64 (p : Int))) none none).run Tryd.prog w = .ok (.slice A (n - p) (c - p)) w) ∧ Hid (Digs w (fun b => b < w.heap.size) A (n - p) (l.drop p)) := ⟨_, slice_lo (by omega), Lib.hid (h.old.drop p c (by omega) hnc)⟩
  have hshi : ∀ w, (Instr.slice 24 (.slice a n c) none (some (.int .i64 (p : Int))) none).run Tryd.prog w = .ok (.slice a p c) w := slice_hi (by omega) (by omega)
  have e0 : ((n : Int) == 0) = false := by rw [beq_eq_false_iff_ne]; omega
  have e1 : ((n : Int) == 1) = false := by rw [beq_eq_false_iff_ne]; omega
  clear h hR hpe
  with_reducible generalize Sm.tree l = res at *
  have HXL := Lib.hid (And.intro HX.out.1 HX.out.2.1)
  obtain ⟨x, hx⟩ : ∃ x, Sm.tree (l.take p) = x := ⟨_, rfl⟩
  obtain ⟨y, hy⟩ : ∃ y, Sm.tree (l.drop p) = y := ⟨_, rfl⟩
  rw [hx, hy] at HT HX
  clear HXL
  have HXE := Lib.hid hx
  have HYE := Lib.hid hy
  clear hx hy
  go_enter Tryd.func42, Tryd.ntmps42
  go_upto_region 7 with (go_at_call 58; refine (powerBelow_any n _ h2 hn).mono ?_; rintro e w' ⟨rfl, rfl⟩; rw [HPE.out])
  rw [zero32z]
  have k0 := Whole.new w 25 (nums (zs 32)).toArray
  have b0 := below_alloc w (.cells (nums (zs 32)).toArray 25)
  have z0 : w.heap.size + 1 ≤ (w.alloc (.cells (nums (zs 32)).toArray 25)).heap.size := k0.lt
  generalize w.alloc (.cells (nums (zs 32)).toArray 25) = w0 at *
  generalize hBe : w.heap.size = B at *
  have HBE := Lib.hid hBe
  have H0 := Lib.hid (And.intro k0 b0)
  clear k0 b0 hBe
  have HV : Hid (∀ v, Below (B + 1) w0 v → Below B w v) := Lib.hid (fun v hv => H0.out.2.trans (hv.mono (by omega)))
  go_cut [4, 5] (fun v4 v5 wr => ∃ P Q : Nat, v4 = .pointer (some ⟨P, 0, none⟩) ∧ v5 = .pointer (some ⟨Q, 0, none⟩) ∧ Hid (Whole wr P 25 (nums x).toArray ∧ Whole wr Q 25 (nums y).toArray ∧ B + 1 ≤ P ∧ B + 1 ≤ Q ∧ Below (B + 1) w0 wr))
  case first =>
    refine wp_region_held_drew (S := fun _ => True) (by kernel_rfl) trivial (fun hHeld => ?_)
    have HB0 : Hid (Below (B + 1) w0 w0.drew) := Lib.hid ((Below.refl _ _).drew)
    generalize w0.drew = v0 at *
    refine wpAnyH_take (i := 0) (v := .slice a n c) rfl (by kernel_rfl) (by kernel_rfl) (by kernel_rfl) (fun _ _ _ h => h) (Or.inl ⟨by rfl, (by intro w hSw; (try dsimp only at hSw); go_simp)⟩) (by assumption) ?_
    try simp only [Act.put, List.getElem_toArray, List.getElem_cons_zero, List.getElem_cons_succ, List.setIfInBounds_toArray, List.set_cons_zero, List.set_cons_succ]
    refine wpAnyH_take (i := 1) (v := .int .i64 (p : Int)) rfl (by kernel_rfl) (by kernel_rfl) (by kernel_rfl) (fun _ _ _ h => h) (Or.inl ⟨by rfl, (by intro w hSw; (try dsimp only at hSw); go_simp)⟩) (by assumption) ?_
    try simp only [Act.put, List.getElem_toArray, List.getElem_cons_zero, List.getElem_cons_succ, List.setIfInBounds_toArray, List.set_cons_zero, List.set_cons_succ]
    refine wpAnyH_take (i := 2) (v := .slice a p c) rfl (by kernel_rfl) (by kernel_rfl) (by kernel_rfl) (fun _ _ _ h => h) (Or.inl ⟨by rfl, (by intro w hSw; (try dsimp only at hSw); go_simp)⟩) (by assumption) ?_
    try simp only [Act.put, List.getElem_toArray, List.getElem_cons_zero, List.getElem_cons_succ, List.setIfInBounds_toArray, List.set_cons_zero, List.set_cons_succ]
    refine wpAnyH_take (i := 4) (v := .slice a n c) rfl (by kernel_rfl) (by kernel_rfl) (by kernel_rfl) (fun _ _ _ h => h) (Or.inl ⟨by rfl, (by intro w hSw; (try dsimp only at hSw); go_simp)⟩) (by assumption) ?_
    try simp only [Act.put, List.getElem_toArray, List.getElem_cons_zero, List.getElem_cons_succ, List.setIfInBounds_toArray, List.set_cons_zero, List.set_cons_succ]
    refine wpAnyH_take (i := 5) (v := .int .i64 (p : Int)) rfl (by kernel_rfl) (by kernel_rfl) (by kernel_rfl) (fun _ _ _ h => h) (Or.inl ⟨by rfl, (by intro w hSw; (try dsimp only at hSw); go_simp)⟩) (by assumption) ?_
    try simp only [Act.put, List.getElem_toArray, List.getElem_cons_zero, List.getElem_cons_succ, List.setIfInBounds_toArray, List.set_cons_zero, List.set_cons_succ]
    refine wpAnyH_take (i := 6) (v := .slice A (n - p) (c - p)) rfl (by kernel_rfl) (by kernel_rfl) (by kernel_rfl) (fun _ _ _ h => h) (Or.inl ⟨by rfl, (by intro w hSw; (try dsimp only at hSw); go_simp)⟩) (by assumption) ?_
    try simp only [Act.put, List.getElem_toArray, List.getElem_cons_zero, List.getElem_cons_succ, List.setIfInBounds_toArray, List.set_cons_zero, List.set_cons_succ]
    refine wpAnyH_ready (rs := [3, 8, 9]) (by kernel_rfl) (by simp) (AllReadyH.cons rfl (fun K hK => ?_) (AllReadyH.cons rfl (fun K hK => ?_) (AllReadyH.cons rfl (fun K hK => ?_) AllReadyH.nil)))
    · skip
      have hd0 := HA.out.below (HV.out v0 HB0.out) (fun b _ h => h)
      try simp only [List.getElem_toArray, List.getElem_cons_zero, List.getElem_cons_succ]
      go_simp
      go_at_call 42
      refine (IH.out p (by omega) hd0 (HR.out.below (HV.out v0 HB0.out) (by omega)) (by omega) (by omega)).mono ?_
      rintro e v1 ⟨rfl, hb0⟩
      rw [HXE.out]
      have HB1 : Hid (Below (B + 1) w0 v1) := Lib.hid (HB0.out.trans (hb0.mono (Nat.le_trans z0 HB0.out.size)))
      clear hb0 hd0
      go_wp2_with fail
      refine hK.out _ _ trivial (fun hHeld => ?_)
      clear hK K
      try simp only [Act.put, List.getElem_toArray, List.getElem_cons_zero, List.getElem_cons_succ, List.setIfInBounds_toArray, List.set_cons_zero, List.set_cons_succ]
      refine wpAnyH_ready (rs := [7, 8, 9]) (by kernel_rfl) (by simp) (AllReadyH.cons rfl (fun K hK => ?_) (AllReadyH.cons rfl (fun K hK => ?_) (AllReadyH.cons rfl (fun K hK => ?_) AllReadyH.nil)))
      · skip
        have hd1 := HC.out.below (HV.out v1 HB1.out) (fun b _ h => h)
        try simp only [List.getElem_toArray, List.getElem_cons_zero, List.getElem_cons_succ]
        go_simp
        go_at_call 42
        refine (IH.out (n - p) (by omega) hd1 (HR.out.below (HV.out v1 HB1.out) (by omega)) (by omega) (by omega)).mono ?_
        rintro e v2 ⟨rfl, hb1⟩
        rw [HYE.out]
        have HB2 : Hid (Below (B + 1) w0 v2) := Lib.hid (HB1.out.trans (hb1.mono (Nat.le_trans z0 HB1.out.size)))
        clear hb1 hd1
        go_wp2_with fail
        refine hK.out _ _ trivial (fun hHeld => ?_)
        clear hK K
        try simp only [Act.put, List.getElem_toArray, List.getElem_cons_zero, List.getElem_cons_succ, List.setIfInBounds_toArray, List.set_cons_zero, List.set_cons_succ]
        refine wpAnyH_ready (rs := [8, 9]) (by kernel_rfl) (by simp) (AllReadyH.cons rfl (fun K hK => ?_) (AllReadyH.cons rfl (fun K hK => ?_) AllReadyH.nil))
        · skip
          try simp only [List.getElem_toArray, List.getElem_cons_zero, List.getElem_cons_succ]
          go_simp
          rw [zero32z]
          have HP3 := Lib.hid (Whole.new v2 25 (nums (zs 32)).toArray)
          have geP : B + 1 ≤ v2.heap.size := Nat.le_trans z0 HB2.out.size
          have HB3 : Hid (Below (B + 1) w0 (v2.alloc (.cells (nums (zs 32)).toArray 25))) := Lib.hid (HB2.out.alloc geP _)
          refine hK.out _ _ trivial (fun hHeld => ?_)
          clear hK K
          try simp only [Act.put, List.getElem_toArray, List.getElem_cons_zero, List.getElem_cons_succ, List.setIfInBounds_toArray, List.set_cons_zero, List.set_cons_succ]
          generalize v2.alloc (.cells (nums (zs 32)).toArray 25) = v3 at *
          generalize v2.heap.size = P at *
          refine wpAnyH_ready (rs := [9]) (by kernel_rfl) (by simp) (AllReadyH.cons rfl (fun K hK => ?_) AllReadyH.nil)
          · skip
            try simp only [List.getElem_toArray, List.getElem_cons_zero, List.getElem_cons_succ]
            go_simp
            rw [zero32z]
            have HQ4 := Lib.hid (Whole.new v3 25 (nums (zs 32)).toArray)
            have geQ : B + 1 ≤ v3.heap.size := Nat.le_trans z0 HB3.out.size
            have HB4 : Hid (Below (B + 1) w0 (v3.alloc (.cells (nums (zs 32)).toArray 25))) := Lib.hid (HB3.out.alloc geQ _)
            have HP4 := Lib.hid (HP3.out.alloc (.cells (nums (zs 32)).toArray 25))
            have ne : P ≠ v3.heap.size := Nat.ne_of_lt HP3.out.lt
            refine hK.out _ _ trivial (fun hHeld => ?_)
            clear hK K
            try simp only [Act.put, List.getElem_toArray, List.getElem_cons_zero, List.getElem_cons_succ, List.setIfInBounds_toArray, List.set_cons_zero, List.set_cons_succ]
            generalize v3.alloc (.cells (nums (zs 32)).toArray 25) = v4 at *
            generalize v3.heap.size = Q at *
            have nePQ : P ≠ Q := ne
            refine wpAnyH_ready (rs := [10]) (by kernel_rfl) (by simp) (AllReadyH.cons rfl (fun K hK => ?_) AllReadyH.nil)
            try simp only [List.getElem_toArray, List.getElem_cons_zero, List.getElem_cons_succ]
            refine if_wanted (by rfl) ?_
            refine wp_store_row _ _ _ rfl P (nums x).toArray rfl rfl 25 _ HP4.out (by rw [row_size HX.out.1]; exact info32) (by rw [zs32_size, row_size HX.out.1]) (all_nums x) ?_
            refine hK.out _ _ trivial (fun hHeld => ?_)
            clear hK K
            try simp only [Act.put, List.getElem_toArray, List.getElem_cons_zero, List.getElem_cons_succ, List.setIfInBounds_toArray, List.set_cons_zero, List.set_cons_succ]
            have HP5 := Lib.hid (HP4.out.row (nums x).toArray)
            have HQ5 := Lib.hid (HQ4.out.rowFar (b := P) (Ne.symm nePQ) (nums x).toArray)
            have HB5 := Lib.hid (below_row HB4.out (g := P) geP (nums x).toArray)
            refine wpAnyH_ready (rs := [11]) (by kernel_rfl) (by simp) (AllReadyH.cons rfl (fun K hK => ?_) AllReadyH.nil)
            try simp only [List.getElem_toArray, List.getElem_cons_zero, List.getElem_cons_succ]
            refine if_wanted (by rfl) ?_
            refine wp_store_row _ _ _ rfl Q (nums y).toArray rfl rfl 25 _ HQ5.out (by rw [row_size HX.out.2.1]; exact info32) (by rw [zs32_size, row_size HX.out.2.1]) (all_nums y) ?_
            refine hK.out _ _ trivial (fun hHeld => ?_)
            clear hK K
            try simp only [Act.put, List.getElem_toArray, List.getElem_cons_zero, List.getElem_cons_succ, List.setIfInBounds_toArray, List.set_cons_zero, List.set_cons_succ]
            have HQ6 := Lib.hid (HQ5.out.row (nums y).toArray)
            have HP6 := Lib.hid (HP5.out.rowFar (b := Q) nePQ (nums y).toArray)
            have HB6 := Lib.hid (below_row HB5.out (g := Q) geQ (nums y).toArray)
            refine wpAnyH_done (by kernel_rfl) ?_ _
            go_wp2_with fail
            go_meet
            exact ⟨P, Q, rfl, rfl, Lib.hid ⟨HP6.out, HQ6.out, geP, geQ, HB6.out⟩⟩
        · skip
          try simp only [List.getElem_toArray, List.getElem_cons_zero, List.getElem_cons_succ]
          go_simp
          rw [zero32z]
          have HQ3 := Lib.hid (Whole.new v2 25 (nums (zs 32)).toArray)
          have geQ : B + 1 ≤ v2.heap.size := Nat.le_trans z0 HB2.out.size
          have HB3 : Hid (Below (B + 1) w0 (v2.alloc (.cells (nums (zs 32)).toArray 25))) := Lib.hid (HB2.out.alloc geQ _)
          refine hK.out _ _ trivial (fun hHeld => ?_)
          clear hK K
          try simp only [Act.put, List.getElem_toArray, List.getElem_cons_zero, List.getElem_cons_succ, List.setIfInBounds_toArray, List.set_cons_zero, List.set_cons_succ]
          generalize v2.alloc (.cells (nums (zs 32)).toArray 25) = v3 at *
          generalize v2.heap.size = Q at *
          refine wpAnyH_ready (rs := [8]) (by kernel_rfl) (by simp) (AllReadyH.cons rfl (fun K hK => ?_) AllReadyH.nil)
          · skip
            try simp only [List.getElem_toArray, List.getElem_cons_zero, List.getElem_cons_succ]
            go_simp
            rw [zero32z]
            have HP4 := Lib.hid (Whole.new v3 25 (nums (zs 32)).toArray)
            have geP : B + 1 ≤ v3.heap.size := Nat.le_trans z0 HB3.out.size
            have HB4 : Hid (Below (B + 1) w0 (v3.alloc (.cells (nums (zs 32)).toArray 25))) := Lib.hid (HB3.out.alloc geP _)
            have HQ4 := Lib.hid (HQ3.out.alloc (.cells (nums (zs 32)).toArray 25))
            have ne : Q ≠ v3.heap.size := Nat.ne_of_lt HQ3.out.lt
            refine hK.out _ _ trivial (fun hHeld => ?_)
            clear hK K
            try simp only [Act.put, List.getElem_toArray, List.getElem_cons_zero, List.getElem_cons_succ, List.setIfInBounds_toArray, List.set_cons_zero, List.set_cons_succ]
            generalize v3.alloc (.cells (nums (zs 32)).toArray 25) = v4 at *
            generalize v3.heap.size = P at *
            have nePQ : P ≠ Q := Ne.symm ne
            refine wpAnyH_ready (rs := [10]) (by kernel_rfl) (by simp) (AllReadyH.cons rfl (fun K hK => ?_) AllReadyH.nil)
            try simp only [List.getElem_toArray, List.getElem_cons_zero, List.getElem_cons_succ]
            refine if_wanted (by rfl) ?_
            refine wp_store_row _ _ _ rfl P (nums x).toArray rfl rfl 25 _ HP4.out (by rw [row_size HX.out.1]; exact info32) (by rw [zs32_size, row_size HX.out.1]) (all_nums x) ?_
            refine hK.out _ _ trivial (fun hHeld => ?_)
            clear hK K
            try simp only [Act.put, List.getElem_toArray, List.getElem_cons_zero, List.getElem_cons_succ, List.setIfInBounds_toArray, List.set_cons_zero, List.set_cons_succ]
            have HP5 := Lib.hid (HP4.out.row (nums x).toArray)
            have HQ5 := Lib.hid (HQ4.out.rowFar (b := P) (Ne.symm nePQ) (nums x).toArray)
            have HB5 := Lib.hid (below_row HB4.out (g := P) geP (nums x).toArray)
            refine wpAnyH_ready (rs := [11]) (by kernel_rfl) (by simp) (AllReadyH.cons rfl (fun K hK => ?_) AllReadyH.nil)
            try simp only [List.getElem_toArray, List.getElem_cons_zero, List.getElem_cons_succ]
            refine if_wanted (by rfl) ?_
            refine wp_store_row _ _ _ rfl Q (nums y).toArray rfl rfl 25 _ HQ5.out (by rw [row_size HX.out.2.1]; exact info32) (by rw [zs32_size, row_size HX.out.2.1]) (all_nums y) ?_
            refine hK.out _ _ trivial (fun hHeld => ?_)
            clear hK K
            try simp only [Act.put, List.getElem_toArray, List.getElem_cons_zero, List.getElem_cons_succ, List.setIfInBounds_toArray, List.set_cons_zero, List.set_cons_succ]
            have HQ6 := Lib.hid (HQ5.out.row (nums y).toArray)
            have HP6 := Lib.hid (HP5.out.rowFar (b := Q) nePQ (nums y).toArray)
            have HB6 := Lib.hid (below_row HB5.out (g := Q) geQ (nums y).toArray)
            refine wpAnyH_done (by kernel_rfl) ?_ _
            go_wp2_with fail
            go_meet
            exact ⟨P, Q, rfl, rfl, Lib.hid ⟨HP6.out, HQ6.out, geP, geQ, HB6.out⟩⟩
      · skip
        try simp only [List.getElem_toArray, List.getElem_cons_zero, List.getElem_cons_succ]
        go_simp
        rw [zero32z]
        have HP2 := Lib.hid (Whole.new v1 25 (nums (zs 32)).toArray)
        have geP : B + 1 ≤ v1.heap.size := Nat.le_trans z0 HB1.out.size
        have HB2 : Hid (Below (B + 1) w0 (v1.alloc (.cells (nums (zs 32)).toArray 25))) := Lib.hid (HB1.out.alloc geP _)
        refine hK.out _ _ trivial (fun hHeld => ?_)
        clear hK K
        try simp only [Act.put, List.getElem_toArray, List.getElem_cons_zero, List.getElem_cons_succ, List.setIfInBounds_toArray, List.set_cons_zero, List.set_cons_succ]
        generalize v1.alloc (.cells (nums (zs 32)).toArray 25) = v2 at *
        generalize v1.heap.size = P at *
        refine wpAnyH_ready (rs := [7, 9]) (by kernel_rfl) (by simp) (AllReadyH.cons rfl (fun K hK => ?_) (AllReadyH.cons rfl (fun K hK => ?_) AllReadyH.nil))
        · skip
          have hd2 := HC.out.below (HV.out v2 HB2.out) (fun b _ h => h)
          try simp only [List.getElem_toArray, List.getElem_cons_zero, List.getElem_cons_succ]
          go_simp
          go_at_call 42
          refine (IH.out (n - p) (by omega) hd2 (HR.out.below (HV.out v2 HB2.out) (by omega)) (by omega) (by omega)).mono ?_
          rintro e v3 ⟨rfl, hb2⟩
          rw [HYE.out]
          have HB3 : Hid (Below (B + 1) w0 v3) := Lib.hid (HB2.out.trans (hb2.mono (Nat.le_trans z0 HB2.out.size)))
          have HP3 := Lib.hid (HP2.out.below hb2 HP2.out.lt)
          clear hb2 hd2
          go_wp2_with fail
          refine hK.out _ _ trivial (fun hHeld => ?_)
          clear hK K
          try simp only [Act.put, List.getElem_toArray, List.getElem_cons_zero, List.getElem_cons_succ, List.setIfInBounds_toArray, List.set_cons_zero, List.set_cons_succ]
          refine wpAnyH_ready (rs := [9]) (by kernel_rfl) (by simp) (AllReadyH.cons rfl (fun K hK => ?_) AllReadyH.nil)
          · skip
            try simp only [List.getElem_toArray, List.getElem_cons_zero, List.getElem_cons_succ]
            go_simp
            rw [zero32z]
            have HQ4 := Lib.hid (Whole.new v3 25 (nums (zs 32)).toArray)
            have geQ : B + 1 ≤ v3.heap.size := Nat.le_trans z0 HB3.out.size
            have HB4 : Hid (Below (B + 1) w0 (v3.alloc (.cells (nums (zs 32)).toArray 25))) := Lib.hid (HB3.out.alloc geQ _)
            have HP4 := Lib.hid (HP3.out.alloc (.cells (nums (zs 32)).toArray 25))
            have ne : P ≠ v3.heap.size := Nat.ne_of_lt HP3.out.lt
            refine hK.out _ _ trivial (fun hHeld => ?_)
            clear hK K
            try simp only [Act.put, List.getElem_toArray, List.getElem_cons_zero, List.getElem_cons_succ, List.setIfInBounds_toArray, List.set_cons_zero, List.set_cons_succ]
            generalize v3.alloc (.cells (nums (zs 32)).toArray 25) = v4 at *
            generalize v3.heap.size = Q at *
            have nePQ : P ≠ Q := ne
            refine wpAnyH_ready (rs := [10]) (by kernel_rfl) (by simp) (AllReadyH.cons rfl (fun K hK => ?_) AllReadyH.nil)
            try simp only [List.getElem_toArray, List.getElem_cons_zero, List.getElem_cons_succ]
            refine if_wanted (by rfl) ?_
            refine wp_store_row _ _ _ rfl P (nums x).toArray rfl rfl 25 _ HP4.out (by rw [row_size HX.out.1]; exact info32) (by rw [zs32_size, row_size HX.out.1]) (all_nums x) ?_
            refine hK.out _ _ trivial (fun hHeld => ?_)
            clear hK K
            try simp only [Act.put, List.getElem_toArray, List.getElem_cons_zero, List.getElem_cons_succ, List.setIfInBounds_toArray, List.set_cons_zero, List.set_cons_succ]
            have HP5 := Lib.hid (HP4.out.row (nums x).toArray)
            have HQ5 := Lib.hid (HQ4.out.rowFar (b := P) (Ne.symm nePQ) (nums x).toArray)
            have HB5 := Lib.hid (below_row HB4.out (g := P) geP (nums x).toArray)
            refine wpAnyH_ready (rs := [11]) (by kernel_rfl) (by simp) (AllReadyH.cons rfl (fun K hK => ?_) AllReadyH.nil)
            try simp only [List.getElem_toArray, List.getElem_cons_zero, List.getElem_cons_succ]
            refine if_wanted (by rfl) ?_
            refine wp_store_row _ _ _ rfl Q (nums y).toArray rfl rfl 25 _ HQ5.out (by rw [row_size HX.out.2.1]; exact info32) (by rw [zs32_size, row_size HX.out.2.1]) (all_nums y) ?_
            refine hK.out _ _ trivial (fun hHeld => ?_)
            clear hK K
            try simp only [Act.put, List.getElem_toArray, List.getElem_cons_zero, List.getElem_cons_succ, List.setIfInBounds_toArray, List.set_cons_zero, List.set_cons_succ]
            have HQ6 := Lib.hid (HQ5.out.row (nums y).toArray)
            have HP6 := Lib.hid (HP5.out.rowFar (b := Q) nePQ (nums y).toArray)
            have HB6 := Lib.hid (below_row HB5.out (g := Q) geQ (nums y).toArray)
            refine wpAnyH_done (by kernel_rfl) ?_ _
            go_wp2_with fail
            go_meet
            exact ⟨P, Q, rfl, rfl, Lib.hid ⟨HP6.out, HQ6.out, geP, geQ, HB6.out⟩⟩
        · skip
          try simp only [List.getElem_toArray, List.getElem_cons_zero, List.getElem_cons_succ]
          go_simp
          rw [zero32z]
          have HQ3 := Lib.hid (Whole.new v2 25 (nums (zs 32)).toArray)
          have geQ : B + 1 ≤ v2.heap.size := Nat.le_trans z0 HB2.out.size
          have HB3 : Hid (Below (B + 1) w0 (v2.alloc (.cells (nums (zs 32)).toArray 25))) := Lib.hid (HB2.out.alloc geQ _)
          have HP3 := Lib.hid (HP2.out.alloc (.cells (nums (zs 32)).toArray 25))
          have ne : P ≠ v2.heap.size := Nat.ne_of_lt HP2.out.lt
          refine hK.out _ _ trivial (fun hHeld => ?_)
          clear hK K
          try simp only [Act.put, List.getElem_toArray, List.getElem_cons_zero, List.getElem_cons_succ, List.setIfInBounds_toArray, List.set_cons_zero, List.set_cons_succ]
          generalize v2.alloc (.cells (nums (zs 32)).toArray 25) = v3 at *
          generalize v2.heap.size = Q at *
          refine wpAnyH_ready (rs := [7]) (by kernel_rfl) (by simp) (AllReadyH.cons rfl (fun K hK => ?_) AllReadyH.nil)
          · skip
            have hd3 := HC.out.below (HV.out v3 HB3.out) (fun b _ h => h)
            try simp only [List.getElem_toArray, List.getElem_cons_zero, List.getElem_cons_succ]
            go_simp
            go_at_call 42
            refine (IH.out (n - p) (by omega) hd3 (HR.out.below (HV.out v3 HB3.out) (by omega)) (by omega) (by omega)).mono ?_
            rintro e v4 ⟨rfl, hb3⟩
            rw [HYE.out]
            have HB4 : Hid (Below (B + 1) w0 v4) := Lib.hid (HB3.out.trans (hb3.mono (Nat.le_trans z0 HB3.out.size)))
            have HP4 := Lib.hid (HP3.out.below hb3 HP3.out.lt)
            have HQ4 := Lib.hid (HQ3.out.below hb3 HQ3.out.lt)
            clear hb3 hd3
            go_wp2_with fail
            refine hK.out _ _ trivial (fun hHeld => ?_)
            clear hK K
            try simp only [Act.put, List.getElem_toArray, List.getElem_cons_zero, List.getElem_cons_succ, List.setIfInBounds_toArray, List.set_cons_zero, List.set_cons_succ]
            have nePQ : P ≠ Q := ne
            refine wpAnyH_ready (rs := [10]) (by kernel_rfl) (by simp) (AllReadyH.cons rfl (fun K hK => ?_) AllReadyH.nil)
            try simp only [List.getElem_toArray, List.getElem_cons_zero, List.getElem_cons_succ]
            refine if_wanted (by rfl) ?_
            refine wp_store_row _ _ _ rfl P (nums x).toArray rfl rfl 25 _ HP4.out (by rw [row_size HX.out.1]; exact info32) (by rw [zs32_size, row_size HX.out.1]) (all_nums x) ?_
            refine hK.out _ _ trivial (fun hHeld => ?_)
            clear hK K
            try simp only [Act.put, List.getElem_toArray, List.getElem_cons_zero, List.getElem_cons_succ, List.setIfInBounds_toArray, List.set_cons_zero, List.set_cons_succ]
            have HP5 := Lib.hid (HP4.out.row (nums x).toArray)
            have HQ5 := Lib.hid (HQ4.out.rowFar (b := P) (Ne.symm nePQ) (nums x).toArray)
            have HB5 := Lib.hid (below_row HB4.out (g := P) geP (nums x).toArray)
            refine wpAnyH_ready (rs := [11]) (by kernel_rfl) (by simp) (AllReadyH.cons rfl (fun K hK => ?_) AllReadyH.nil)
            try simp only [List.getElem_toArray, List.getElem_cons_zero, List.getElem_cons_succ]
            refine if_wanted (by rfl) ?_
            refine wp_store_row _ _ _ rfl Q (nums y).toArray rfl rfl 25 _ HQ5.out (by rw [row_size HX.out.2.1]; exact info32) (by rw [zs32_size, row_size HX.out.2.1]) (all_nums y) ?_
            refine hK.out _ _ trivial (fun hHeld => ?_)
            clear hK K
            try simp only [Act.put, List.getElem_toArray, List.getElem_cons_zero, List.getElem_cons_succ, List.setIfInBounds_toArray, List.set_cons_zero, List.set_cons_succ]
            have HQ6 := Lib.hid (HQ5.out.row (nums y).toArray)
            have HP6 := Lib.hid (HP5.out.rowFar (b := Q) nePQ (nums y).toArray)
            have HB6 := Lib.hid (below_row HB5.out (g := Q) geQ (nums y).toArray)
            refine wpAnyH_done (by kernel_rfl) ?_ _
            go_wp2_with fail
            go_meet
            exact ⟨P, Q, rfl, rfl, Lib.hid ⟨HP6.out, HQ6.out, geP, geQ, HB6.out⟩⟩
      · skip
        try simp only [List.getElem_toArray, List.getElem_cons_zero, List.getElem_cons_succ]
        go_simp
        rw [zero32z]
        have HQ2 := Lib.hid (Whole.new v1 25 (nums (zs 32)).toArray)
        have geQ : B + 1 ≤ v1.heap.size := Nat.le_trans z0 HB1.out.size
        have HB2 : Hid (Below (B + 1) w0 (v1.alloc (.cells (nums (zs 32)).toArray 25))) := Lib.hid (HB1.out.alloc geQ _)
        refine hK.out _ _ trivial (fun hHeld => ?_)
        clear hK K
        try simp only [Act.put, List.getElem_toArray, List.getElem_cons_zero, List.getElem_cons_succ, List.setIfInBounds_toArray, List.set_cons_zero, List.set_cons_succ]
        generalize v1.alloc (.cells (nums (zs 32)).toArray 25) = v2 at *
        generalize v1.heap.size = Q at *
        refine wpAnyH_ready (rs := [7, 8]) (by kernel_rfl) (by simp) (AllReadyH.cons rfl (fun K hK => ?_) (AllReadyH.cons rfl (fun K hK => ?_) AllReadyH.nil))
        · skip
          have hd2 := HC.out.below (HV.out v2 HB2.out) (fun b _ h => h)
          try simp only [List.getElem_toArray, List.getElem_cons_zero, List.getElem_cons_succ]
          go_simp
          go_at_call 42
          refine (IH.out (n - p) (by omega) hd2 (HR.out.below (HV.out v2 HB2.out) (by omega)) (by omega) (by omega)).mono ?_
          rintro e v3 ⟨rfl, hb2⟩
          rw [HYE.out]
          have HB3 : Hid (Below (B + 1) w0 v3) := Lib.hid (HB2.out.trans (hb2.mono (Nat.le_trans z0 HB2.out.size)))
          have HQ3 := Lib.hid (HQ2.out.below hb2 HQ2.out.lt)
          clear hb2 hd2
          go_wp2_with fail
          refine hK.out _ _ trivial (fun hHeld => ?_)
          clear hK K
          try simp only [Act.put, List.getElem_toArray, List.getElem_cons_zero, List.getElem_cons_succ, List.setIfInBounds_toArray, List.set_cons_zero, List.set_cons_succ]
          refine wpAnyH_ready (rs := [8]) (by kernel_rfl) (by simp) (AllReadyH.cons rfl (fun K hK => ?_) AllReadyH.nil)
          · skip
            try simp only [List.getElem_toArray, List.getElem_cons_zero, List.getElem_cons_succ]
            go_simp
            rw [zero32z]
            have HP4 := Lib.hid (Whole.new v3 25 (nums (zs 32)).toArray)
            have geP : B + 1 ≤ v3.heap.size := Nat.le_trans z0 HB3.out.size
            have HB4 : Hid (Below (B + 1) w0 (v3.alloc (.cells (nums (zs 32)).toArray 25))) := Lib.hid (HB3.out.alloc geP _)
            have HQ4 := Lib.hid (HQ3.out.alloc (.cells (nums (zs 32)).toArray 25))
            have ne : Q ≠ v3.heap.size := Nat.ne_of_lt HQ3.out.lt
            refine hK.out _ _ trivial (fun hHeld => ?_)
            clear hK K
            try simp only [Act.put, List.getElem_toArray, List.getElem_cons_zero, List.getElem_cons_succ, List.setIfInBounds_toArray, List.set_cons_zero, List.set_cons_succ]
            generalize v3.alloc (.cells (nums (zs 32)).toArray 25) = v4 at *
            generalize v3.heap.size = P at *
            have nePQ : P ≠ Q := Ne.symm ne
            refine wpAnyH_ready (rs := [10]) (by kernel_rfl) (by simp) (AllReadyH.cons rfl (fun K hK => ?_) AllReadyH.nil)
            try simp only [List.getElem_toArray, List.getElem_cons_zero, List.getElem_cons_succ]
            refine if_wanted (by rfl) ?_
            refine wp_store_row _ _ _ rfl P (nums x).toArray rfl rfl 25 _ HP4.out (by rw [row_size HX.out.1]; exact info32) (by rw [zs32_size, row_size HX.out.1]) (all_nums x) ?_
            refine hK.out _ _ trivial (fun hHeld => ?_)
            clear hK K
            try simp only [Act.put, List.getElem_toArray, List.getElem_cons_zero, List.getElem_cons_succ, List.setIfInBounds_toArray, List.set_cons_zero, List.set_cons_succ]
            have HP5 := Lib.hid (HP4.out.row (nums x).toArray)
            have HQ5 := Lib.hid (HQ4.out.rowFar (b := P) (Ne.symm nePQ) (nums x).toArray)
            have HB5 := Lib.hid (below_row HB4.out (g := P) geP (nums x).toArray)
            refine wpAnyH_ready (rs := [11]) (by kernel_rfl) (by simp) (AllReadyH.cons rfl (fun K hK => ?_) AllReadyH.nil)
            try simp only [List.getElem_toArray, List.getElem_cons_zero, List.getElem_cons_succ]
            refine if_wanted (by rfl) ?_
            refine wp_store_row _ _ _ rfl Q (nums y).toArray rfl rfl 25 _ HQ5.out (by rw [row_size HX.out.2.1]; exact info32) (by rw [zs32_size, row_size HX.out.2.1]) (all_nums y) ?_
            refine hK.out _ _ trivial (fun hHeld => ?_)
            clear hK K
            try simp only [Act.put, List.getElem_toArray, List.getElem_cons_zero, List.getElem_cons_succ, List.setIfInBounds_toArray, List.set_cons_zero, List.set_cons_succ]
            have HQ6 := Lib.hid (HQ5.out.row (nums y).toArray)
            have HP6 := Lib.hid (HP5.out.rowFar (b := Q) nePQ (nums y).toArray)
            have HB6 := Lib.hid (below_row HB5.out (g := Q) geQ (nums y).toArray)
            refine wpAnyH_done (by kernel_rfl) ?_ _
            go_wp2_with fail
            go_meet
            exact ⟨P, Q, rfl, rfl, Lib.hid ⟨HP6.out, HQ6.out, geP, geQ, HB6.out⟩⟩
        · skip
          try simp only [List.getElem_toArray, List.getElem_cons_zero, List.getElem_cons_succ]
          go_simp
          rw [zero32z]
          have HP3 := Lib.hid (Whole.new v2 25 (nums (zs 32)).toArray)
          have geP : B + 1 ≤ v2.heap.size := Nat.le_trans z0 HB2.out.size
          have HB3 : Hid (Below (B + 1) w0 (v2.alloc (.cells (nums (zs 32)).toArray 25))) := Lib.hid (HB2.out.alloc geP _)
          have HQ3 := Lib.hid (HQ2.out.alloc (.cells (nums (zs 32)).toArray 25))
          have ne : Q ≠ v2.heap.size := Nat.ne_of_lt HQ2.out.lt
          refine hK.out _ _ trivial (fun hHeld => ?_)
          clear hK K
          try simp only [Act.put, List.getElem_toArray, List.getElem_cons_zero, List.getElem_cons_succ, List.setIfInBounds_toArray, List.set_cons_zero, List.set_cons_succ]
          generalize v2.alloc (.cells (nums (zs 32)).toArray 25) = v3 at *
          generalize v2.heap.size = P at *
          refine wpAnyH_ready (rs := [7]) (by kernel_rfl) (by simp) (AllReadyH.cons rfl (fun K hK => ?_) AllReadyH.nil)
          · skip
            have hd3 := HC.out.below (HV.out v3 HB3.out) (fun b _ h => h)
            try simp only [List.getElem_toArray, List.getElem_cons_zero, List.getElem_cons_succ]
            go_simp
            go_at_call 42
            refine (IH.out (n - p) (by omega) hd3 (HR.out.below (HV.out v3 HB3.out) (by omega)) (by omega) (by omega)).mono ?_
            rintro e v4 ⟨rfl, hb3⟩
            rw [HYE.out]
            have HB4 : Hid (Below (B + 1) w0 v4) := Lib.hid (HB3.out.trans (hb3.mono (Nat.le_trans z0 HB3.out.size)))
            have HP4 := Lib.hid (HP3.out.below hb3 HP3.out.lt)
            have HQ4 := Lib.hid (HQ3.out.below hb3 HQ3.out.lt)
            clear hb3 hd3
            go_wp2_with fail
            refine hK.out _ _ trivial (fun hHeld => ?_)
            clear hK K
            try simp only [Act.put, List.getElem_toArray, List.getElem_cons_zero, List.getElem_cons_succ, List.setIfInBounds_toArray, List.set_cons_zero, List.set_cons_succ]
            have nePQ : P ≠ Q := Ne.symm ne
            refine wpAnyH_ready (rs := [10]) (by kernel_rfl) (by simp) (AllReadyH.cons rfl (fun K hK => ?_) AllReadyH.nil)
            try simp only [List.getElem_toArray, List.getElem_cons_zero, List.getElem_cons_succ]
            refine if_wanted (by rfl) ?_
            refine wp_store_row _ _ _ rfl P (nums x).toArray rfl rfl 25 _ HP4.out (by rw [row_size HX.out.1]; exact info32) (by rw [zs32_size, row_size HX.out.1]) (all_nums x) ?_
            refine hK.out _ _ trivial (fun hHeld => ?_)
            clear hK K
            try simp only [Act.put, List.getElem_toArray, List.getElem_cons_zero, List.getElem_cons_succ, List.setIfInBounds_toArray, List.set_cons_zero, List.set_cons_succ]
            have HP5 := Lib.hid (HP4.out.row (nums x).toArray)
            have HQ5 := Lib.hid (HQ4.out.rowFar (b := P) (Ne.symm nePQ) (nums x).toArray)
            have HB5 := Lib.hid (below_row HB4.out (g := P) geP (nums x).toArray)
            refine wpAnyH_ready (rs := [11]) (by kernel_rfl) (by simp) (AllReadyH.cons rfl (fun K hK => ?_) AllReadyH.nil)
            try simp only [List.getElem_toArray, List.getElem_cons_zero, List.getElem_cons_succ]
            refine if_wanted (by rfl) ?_
            refine wp_store_row _ _ _ rfl Q (nums y).toArray rfl rfl 25 _ HQ5.out (by rw [row_size HX.out.2.1]; exact info32) (by rw [zs32_size, row_size HX.out.2.1]) (all_nums y) ?_
            refine hK.out _ _ trivial (fun hHeld => ?_)
            clear hK K
            try simp only [Act.put, List.getElem_toArray, List.getElem_cons_zero, List.getElem_cons_succ, List.setIfInBounds_toArray, List.set_cons_zero, List.set_cons_succ]
            have HQ6 := Lib.hid (HQ5.out.row (nums y).toArray)
            have HP6 := Lib.hid (HP5.out.rowFar (b := Q) nePQ (nums y).toArray)
            have HB6 := Lib.hid (below_row HB5.out (g := Q) geQ (nums y).toArray)
            refine wpAnyH_done (by kernel_rfl) ?_ _
            go_wp2_with fail
            go_meet
            exact ⟨P, Q, rfl, rfl, Lib.hid ⟨HP6.out, HQ6.out, geP, geQ, HB6.out⟩⟩
    · skip
      try simp only [List.getElem_toArray, List.getElem_cons_zero, List.getElem_cons_succ]
      go_simp
      rw [zero32z]
      have HP1 := Lib.hid (Whole.new v0 25 (nums (zs 32)).toArray)
      have geP : B + 1 ≤ v0.heap.size := Nat.le_trans z0 HB0.out.size
      have HB1 : Hid (Below (B + 1) w0 (v0.alloc (.cells (nums (zs 32)).toArray 25))) := Lib.hid (HB0.out.alloc geP _)
      refine hK.out _ _ trivial (fun hHeld => ?_)
      clear hK K
      try simp only [Act.put, List.getElem_toArray, List.getElem_cons_zero, List.getElem_cons_succ, List.setIfInBounds_toArray, List.set_cons_zero, List.set_cons_succ]
      generalize v0.alloc (.cells (nums (zs 32)).toArray 25) = v1 at *
      generalize v0.heap.size = P at *
      refine wpAnyH_ready (rs := [3, 9]) (by kernel_rfl) (by simp) (AllReadyH.cons rfl (fun K hK => ?_) (AllReadyH.cons rfl (fun K hK => ?_) AllReadyH.nil))
      · skip
        have hd1 := HA.out.below (HV.out v1 HB1.out) (fun b _ h => h)
        try simp only [List.getElem_toArray, List.getElem_cons_zero, List.getElem_cons_succ]
        go_simp
        go_at_call 42
        refine (IH.out p (by omega) hd1 (HR.out.below (HV.out v1 HB1.out) (by omega)) (by omega) (by omega)).mono ?_
        rintro e v2 ⟨rfl, hb1⟩
        rw [HXE.out]
        have HB2 : Hid (Below (B + 1) w0 v2) := Lib.hid (HB1.out.trans (hb1.mono (Nat.le_trans z0 HB1.out.size)))
        have HP2 := Lib.hid (HP1.out.below hb1 HP1.out.lt)
        clear hb1 hd1
        go_wp2_with fail
        refine hK.out _ _ trivial (fun hHeld => ?_)
        clear hK K
        try simp only [Act.put, List.getElem_toArray, List.getElem_cons_zero, List.getElem_cons_succ, List.setIfInBounds_toArray, List.set_cons_zero, List.set_cons_succ]
        refine wpAnyH_ready (rs := [7, 9]) (by kernel_rfl) (by simp) (AllReadyH.cons rfl (fun K hK => ?_) (AllReadyH.cons rfl (fun K hK => ?_) AllReadyH.nil))
        · skip
          have hd2 := HC.out.below (HV.out v2 HB2.out) (fun b _ h => h)
          try simp only [List.getElem_toArray, List.getElem_cons_zero, List.getElem_cons_succ]
          go_simp
          go_at_call 42
          refine (IH.out (n - p) (by omega) hd2 (HR.out.below (HV.out v2 HB2.out) (by omega)) (by omega) (by omega)).mono ?_
          rintro e v3 ⟨rfl, hb2⟩
          rw [HYE.out]
          have HB3 : Hid (Below (B + 1) w0 v3) := Lib.hid (HB2.out.trans (hb2.mono (Nat.le_trans z0 HB2.out.size)))
          have HP3 := Lib.hid (HP2.out.below hb2 HP2.out.lt)
          clear hb2 hd2
          go_wp2_with fail
          refine hK.out _ _ trivial (fun hHeld => ?_)
          clear hK K
          try simp only [Act.put, List.getElem_toArray, List.getElem_cons_zero, List.getElem_cons_succ, List.setIfInBounds_toArray, List.set_cons_zero, List.set_cons_succ]
          refine wpAnyH_ready (rs := [9]) (by kernel_rfl) (by simp) (AllReadyH.cons rfl (fun K hK => ?_) AllReadyH.nil)
          · skip
            try simp only [List.getElem_toArray, List.getElem_cons_zero, List.getElem_cons_succ]
            go_simp
            rw [zero32z]
            have HQ4 := Lib.hid (Whole.new v3 25 (nums (zs 32)).toArray)
            have geQ : B + 1 ≤ v3.heap.size := Nat.le_trans z0 HB3.out.size
            have HB4 : Hid (Below (B + 1) w0 (v3.alloc (.cells (nums (zs 32)).toArray 25))) := Lib.hid (HB3.out.alloc geQ _)
            have HP4 := Lib.hid (HP3.out.alloc (.cells (nums (zs 32)).toArray 25))
            have ne : P ≠ v3.heap.size := Nat.ne_of_lt HP3.out.lt
            refine hK.out _ _ trivial (fun hHeld => ?_)
            clear hK K
            try simp only [Act.put, List.getElem_toArray, List.getElem_cons_zero, List.getElem_cons_succ, List.setIfInBounds_toArray, List.set_cons_zero, List.set_cons_succ]
            generalize v3.alloc (.cells (nums (zs 32)).toArray 25) = v4 at *
            generalize v3.heap.size = Q at *
            have nePQ : P ≠ Q := ne
            refine wpAnyH_ready (rs := [10]) (by kernel_rfl) (by simp) (AllReadyH.cons rfl (fun K hK => ?_) AllReadyH.nil)
            try simp only [List.getElem_toArray, List.getElem_cons_zero, List.getElem_cons_succ]
            refine if_wanted (by rfl) ?_
            refine wp_store_row _ _ _ rfl P (nums x).toArray rfl rfl 25 _ HP4.out (by rw [row_size HX.out.1]; exact info32) (by rw [zs32_size, row_size HX.out.1]) (all_nums x) ?_
            refine hK.out _ _ trivial (fun hHeld => ?_)
            clear hK K
            try simp only [Act.put, List.getElem_toArray, List.getElem_cons_zero, List.getElem_cons_succ, List.setIfInBounds_toArray, List.set_cons_zero, List.set_cons_succ]
            have HP5 := Lib.hid (HP4.out.row (nums x).toArray)
            have HQ5 := Lib.hid (HQ4.out.rowFar (b := P) (Ne.symm nePQ) (nums x).toArray)
            have HB5 := Lib.hid (below_row HB4.out (g := P) geP (nums x).toArray)
            refine wpAnyH_ready (rs := [11]) (by kernel_rfl) (by simp) (AllReadyH.cons rfl (fun K hK => ?_) AllReadyH.nil)
            try simp only [List.getElem_toArray, List.getElem_cons_zero, List.getElem_cons_succ]
            refine if_wanted (by rfl) ?_
            refine wp_store_row _ _ _ rfl Q (nums y).toArray rfl rfl 25 _ HQ5.out (by rw [row_size HX.out.2.1]; exact info32) (by rw [zs32_size, row_size HX.out.2.1]) (all_nums y) ?_
            refine hK.out _ _ trivial (fun hHeld => ?_)
            clear hK K
            try simp only [Act.put, List.getElem_toArray, List.getElem_cons_zero, List.getElem_cons_succ, List.setIfInBounds_toArray, List.set_cons_zero, List.set_cons_succ]
            have HQ6 := Lib.hid (HQ5.out.row (nums y).toArray)
            have HP6 := Lib.hid (HP5.out.rowFar (b := Q) nePQ (nums y).toArray)
            have HB6 := Lib.hid (below_row HB5.out (g := Q) geQ (nums y).toArray)
            refine wpAnyH_done (by kernel_rfl) ?_ _
            go_wp2_with fail
            go_meet
            exact ⟨P, Q, rfl, rfl, Lib.hid ⟨HP6.out, HQ6.out, geP, geQ, HB6.out⟩⟩
        · skip
          try simp only [List.getElem_toArray, List.getElem_cons_zero, List.getElem_cons_succ]
          go_simp
          rw [zero32z]
          have HQ3 := Lib.hid (Whole.new v2 25 (nums (zs 32)).toArray)
          have geQ : B + 1 ≤ v2.heap.size := Nat.le_trans z0 HB2.out.size
          have HB3 : Hid (Below (B + 1) w0 (v2.alloc (.cells (nums (zs 32)).toArray 25))) := Lib.hid (HB2.out.alloc geQ _)
          have HP3 := Lib.hid (HP2.out.alloc (.cells (nums (zs 32)).toArray 25))
          have ne : P ≠ v2.heap.size := Nat.ne_of_lt HP2.out.lt
          refine hK.out _ _ trivial (fun hHeld => ?_)
          clear hK K
          try simp only [Act.put, List.getElem_toArray, List.getElem_cons_zero, List.getElem_cons_succ, List.setIfInBounds_toArray, List.set_cons_zero, List.set_cons_succ]
          generalize v2.alloc (.cells (nums (zs 32)).toArray 25) = v3 at *
          generalize v2.heap.size = Q at *
          refine wpAnyH_ready (rs := [7]) (by kernel_rfl) (by simp) (AllReadyH.cons rfl (fun K hK => ?_) AllReadyH.nil)
          · skip
            have hd3 := HC.out.below (HV.out v3 HB3.out) (fun b _ h => h)
            try simp only [List.getElem_toArray, List.getElem_cons_zero, List.getElem_cons_succ]
            go_simp
            go_at_call 42
            refine (IH.out (n - p) (by omega) hd3 (HR.out.below (HV.out v3 HB3.out) (by omega)) (by omega) (by omega)).mono ?_
            rintro e v4 ⟨rfl, hb3⟩
            rw [HYE.out]
            have HB4 : Hid (Below (B + 1) w0 v4) := Lib.hid (HB3.out.trans (hb3.mono (Nat.le_trans z0 HB3.out.size)))
            have HP4 := Lib.hid (HP3.out.below hb3 HP3.out.lt)
            have HQ4 := Lib.hid (HQ3.out.below hb3 HQ3.out.lt)
            clear hb3 hd3
            go_wp2_with fail
            refine hK.out _ _ trivial (fun hHeld => ?_)
            clear hK K
            try simp only [Act.put, List.getElem_toArray, List.getElem_cons_zero, List.getElem_cons_succ, List.setIfInBounds_toArray, List.set_cons_zero, List.set_cons_succ]
            have nePQ : P ≠ Q := ne
            refine wpAnyH_ready (rs := [10]) (by kernel_rfl) (by simp) (AllReadyH.cons rfl (fun K hK => ?_) AllReadyH.nil)
            try simp only [List.getElem_toArray, List.getElem_cons_zero, List.getElem_cons_succ]
            refine if_wanted (by rfl) ?_
            refine wp_store_row _ _ _ rfl P (nums x).toArray rfl rfl 25 _ HP4.out (by rw [row_size HX.out.1]; exact info32) (by rw [zs32_size, row_size HX.out.1]) (all_nums x) ?_
            refine hK.out _ _ trivial (fun hHeld => ?_)
            clear hK K
            try simp only [Act.put, List.getElem_toArray, List.getElem_cons_zero, List.getElem_cons_succ, List.setIfInBounds_toArray, List.set_cons_zero, List.set_cons_succ]
            have HP5 := Lib.hid (HP4.out.row (nums x).toArray)
            have HQ5 := Lib.hid (HQ4.out.rowFar (b := P) (Ne.symm nePQ) (nums x).toArray)
            have HB5 := Lib.hid (below_row HB4.out (g := P) geP (nums x).toArray)
            refine wpAnyH_ready (rs := [11]) (by kernel_rfl) (by simp) (AllReadyH.cons rfl (fun K hK => ?_) AllReadyH.nil)
            try simp only [List.getElem_toArray, List.getElem_cons_zero, List.getElem_cons_succ]
            refine if_wanted (by rfl) ?_
            refine wp_store_row _ _ _ rfl Q (nums y).toArray rfl rfl 25 _ HQ5.out (by rw [row_size HX.out.2.1]; exact info32) (by rw [zs32_size, row_size HX.out.2.1]) (all_nums y) ?_
            refine hK.out _ _ trivial (fun hHeld => ?_)
            clear hK K
            try simp only [Act.put, List.getElem_toArray, List.getElem_cons_zero, List.getElem_cons_succ, List.setIfInBounds_toArray, List.set_cons_zero, List.set_cons_succ]
            have HQ6 := Lib.hid (HQ5.out.row (nums y).toArray)
            have HP6 := Lib.hid (HP5.out.rowFar (b := Q) nePQ (nums y).toArray)
            have HB6 := Lib.hid (below_row HB5.out (g := Q) geQ (nums y).toArray)
            refine wpAnyH_done (by kernel_rfl) ?_ _
            go_wp2_with fail
            go_meet
            exact ⟨P, Q, rfl, rfl, Lib.hid ⟨HP6.out, HQ6.out, geP, geQ, HB6.out⟩⟩
      · skip
        try simp only [List.getElem_toArray, List.getElem_cons_zero, List.getElem_cons_succ]
        go_simp
        rw [zero32z]
        have HQ2 := Lib.hid (Whole.new v1 25 (nums (zs 32)).toArray)
        have geQ : B + 1 ≤ v1.heap.size := Nat.le_trans z0 HB1.out.size
        have HB2 : Hid (Below (B + 1) w0 (v1.alloc (.cells (nums (zs 32)).toArray 25))) := Lib.hid (HB1.out.alloc geQ _)
        have HP2 := Lib.hid (HP1.out.alloc (.cells (nums (zs 32)).toArray 25))
        have ne : P ≠ v1.heap.size := Nat.ne_of_lt HP1.out.lt
        refine hK.out _ _ trivial (fun hHeld => ?_)
        clear hK K
        try simp only [Act.put, List.getElem_toArray, List.getElem_cons_zero, List.getElem_cons_succ, List.setIfInBounds_toArray, List.set_cons_zero, List.set_cons_succ]
        generalize v1.alloc (.cells (nums (zs 32)).toArray 25) = v2 at *
        generalize v1.heap.size = Q at *
        refine wpAnyH_ready (rs := [3]) (by kernel_rfl) (by simp) (AllReadyH.cons rfl (fun K hK => ?_) AllReadyH.nil)
        · skip
          have hd2 := HA.out.below (HV.out v2 HB2.out) (fun b _ h => h)
          try simp only [List.getElem_toArray, List.getElem_cons_zero, List.getElem_cons_succ]
          go_simp
          go_at_call 42
          refine (IH.out p (by omega) hd2 (HR.out.below (HV.out v2 HB2.out) (by omega)) (by omega) (by omega)).mono ?_
          rintro e v3 ⟨rfl, hb2⟩
          rw [HXE.out]
          have HB3 : Hid (Below (B + 1) w0 v3) := Lib.hid (HB2.out.trans (hb2.mono (Nat.le_trans z0 HB2.out.size)))
          have HP3 := Lib.hid (HP2.out.below hb2 HP2.out.lt)
          have HQ3 := Lib.hid (HQ2.out.below hb2 HQ2.out.lt)
          clear hb2 hd2
          go_wp2_with fail
          refine hK.out _ _ trivial (fun hHeld => ?_)
          clear hK K
          try simp only [Act.put, List.getElem_toArray, List.getElem_cons_zero, List.getElem_cons_succ, List.setIfInBounds_toArray, List.set_cons_zero, List.set_cons_succ]
          refine wpAnyH_ready (rs := [7]) (by kernel_rfl) (by simp) (AllReadyH.cons rfl (fun K hK => ?_) AllReadyH.nil)
          · skip
            have hd3 := HC.out.below (HV.out v3 HB3.out) (fun b _ h => h)
            try simp only [List.getElem_toArray, List.getElem_cons_zero, List.getElem_cons_succ]
            go_simp
            go_at_call 42
            refine (IH.out (n - p) (by omega) hd3 (HR.out.below (HV.out v3 HB3.out) (by omega)) (by omega) (by omega)).mono ?_
            rintro e v4 ⟨rfl, hb3⟩
            rw [HYE.out]
            have HB4 : Hid (Below (B + 1) w0 v4) := Lib.hid (HB3.out.trans (hb3.mono (Nat.le_trans z0 HB3.out.size)))
            have HP4 := Lib.hid (HP3.out.below hb3 HP3.out.lt)
            have HQ4 := Lib.hid (HQ3.out.below hb3 HQ3.out.lt)
            clear hb3 hd3
            go_wp2_with fail
            refine hK.out _ _ trivial (fun hHeld => ?_)
            clear hK K
            try simp only [Act.put, List.getElem_toArray, List.getElem_cons_zero, List.getElem_cons_succ, List.setIfInBounds_toArray, List.set_cons_zero, List.set_cons_succ]
            have nePQ : P ≠ Q := ne
            refine wpAnyH_ready (rs := [10]) (by kernel_rfl) (by simp) (AllReadyH.cons rfl (fun K hK => ?_) AllReadyH.nil)
            try simp only [List.getElem_toArray, List.getElem_cons_zero, List.getElem_cons_succ]
            refine if_wanted (by rfl) ?_
            refine wp_store_row _ _ _ rfl P (nums x).toArray rfl rfl 25 _ HP4.out (by rw [row_size HX.out.1]; exact info32) (by rw [zs32_size, row_size HX.out.1]) (all_nums x) ?_
            refine hK.out _ _ trivial (fun hHeld => ?_)
            clear hK K
            try simp only [Act.put, List.getElem_toArray, List.getElem_cons_zero, List.getElem_cons_succ, List.setIfInBounds_toArray, List.set_cons_zero, List.set_cons_succ]
            have HP5 := Lib.hid (HP4.out.row (nums x).toArray)
            have HQ5 := Lib.hid (HQ4.out.rowFar (b := P) (Ne.symm nePQ) (nums x).toArray)
            have HB5 := Lib.hid (below_row HB4.out (g := P) geP (nums x).toArray)
            refine wpAnyH_ready (rs := [11]) (by kernel_rfl) (by simp) (AllReadyH.cons rfl (fun K hK => ?_) AllReadyH.nil)
            try simp only [List.getElem_toArray, List.getElem_cons_zero, List.getElem_cons_succ]
            refine if_wanted (by rfl) ?_
            refine wp_store_row _ _ _ rfl Q (nums y).toArray rfl rfl 25 _ HQ5.out (by rw [row_size HX.out.2.1]; exact info32) (by rw [zs32_size, row_size HX.out.2.1]) (all_nums y) ?_
            refine hK.out _ _ trivial (fun hHeld => ?_)
            clear hK K
            try simp only [Act.put, List.getElem_toArray, List.getElem_cons_zero, List.getElem_cons_succ, List.setIfInBounds_toArray, List.set_cons_zero, List.set_cons_succ]
            have HQ6 := Lib.hid (HQ5.out.row (nums y).toArray)
            have HP6 := Lib.hid (HP5.out.rowFar (b := Q) nePQ (nums y).toArray)
            have HB6 := Lib.hid (below_row HB5.out (g := Q) geQ (nums y).toArray)
            refine wpAnyH_done (by kernel_rfl) ?_ _
            go_wp2_with fail
            go_meet
            exact ⟨P, Q, rfl, rfl, Lib.hid ⟨HP6.out, HQ6.out, geP, geQ, HB6.out⟩⟩
    · skip
      try simp only [List.getElem_toArray, List.getElem_cons_zero, List.getElem_cons_succ]
      go_simp
      rw [zero32z]
      have HQ1 := Lib.hid (Whole.new v0 25 (nums (zs 32)).toArray)
      have geQ : B + 1 ≤ v0.heap.size := Nat.le_trans z0 HB0.out.size
      have HB1 : Hid (Below (B + 1) w0 (v0.alloc (.cells (nums (zs 32)).toArray 25))) := Lib.hid (HB0.out.alloc geQ _)
      refine hK.out _ _ trivial (fun hHeld => ?_)
      clear hK K
      try simp only [Act.put, List.getElem_toArray, List.getElem_cons_zero, List.getElem_cons_succ, List.setIfInBounds_toArray, List.set_cons_zero, List.set_cons_succ]
      generalize v0.alloc (.cells (nums (zs 32)).toArray 25) = v1 at *
      generalize v0.heap.size = Q at *
      refine wpAnyH_ready (rs := [3, 8]) (by kernel_rfl) (by simp) (AllReadyH.cons rfl (fun K hK => ?_) (AllReadyH.cons rfl (fun K hK => ?_) AllReadyH.nil))
      · skip
        have hd1 := HA.out.below (HV.out v1 HB1.out) (fun b _ h => h)
        try simp only [List.getElem_toArray, List.getElem_cons_zero, List.getElem_cons_succ]
        go_simp
        go_at_call 42
        refine (IH.out p (by omega) hd1 (HR.out.below (HV.out v1 HB1.out) (by omega)) (by omega) (by omega)).mono ?_
        rintro e v2 ⟨rfl, hb1⟩
        rw [HXE.out]
        have HB2 : Hid (Below (B + 1) w0 v2) := Lib.hid (HB1.out.trans (hb1.mono (Nat.le_trans z0 HB1.out.size)))
        have HQ2 := Lib.hid (HQ1.out.below hb1 HQ1.out.lt)
        clear hb1 hd1
        go_wp2_with fail
        refine hK.out _ _ trivial (fun hHeld => ?_)
        clear hK K
        try simp only [Act.put, List.getElem_toArray, List.getElem_cons_zero, List.getElem_cons_succ, List.setIfInBounds_toArray, List.set_cons_zero, List.set_cons_succ]
        refine wpAnyH_ready (rs := [7, 8]) (by kernel_rfl) (by simp) (AllReadyH.cons rfl (fun K hK => ?_) (AllReadyH.cons rfl (fun K hK => ?_) AllReadyH.nil))
        · skip
          have hd2 := HC.out.below (HV.out v2 HB2.out) (fun b _ h => h)
          try simp only [List.getElem_toArray, List.getElem_cons_zero, List.getElem_cons_succ]
          go_simp
          go_at_call 42
          refine (IH.out (n - p) (by omega) hd2 (HR.out.below (HV.out v2 HB2.out) (by omega)) (by omega) (by omega)).mono ?_
          rintro e v3 ⟨rfl, hb2⟩
          rw [HYE.out]
          have HB3 : Hid (Below (B + 1) w0 v3) := Lib.hid (HB2.out.trans (hb2.mono (Nat.le_trans z0 HB2.out.size)))
          have HQ3 := Lib.hid (HQ2.out.below hb2 HQ2.out.lt)
          clear hb2 hd2
          go_wp2_with fail
          refine hK.out _ _ trivial (fun hHeld => ?_)
          clear hK K
          try simp only [Act.put, List.getElem_toArray, List.getElem_cons_zero, List.getElem_cons_succ, List.setIfInBounds_toArray, List.set_cons_zero, List.set_cons_succ]
          refine wpAnyH_ready (rs := [8]) (by kernel_rfl) (by simp) (AllReadyH.cons rfl (fun K hK => ?_) AllReadyH.nil)
          · skip
            try simp only [List.getElem_toArray, List.getElem_cons_zero, List.getElem_cons_succ]
            go_simp
            rw [zero32z]
            have HP4 := Lib.hid (Whole.new v3 25 (nums (zs 32)).toArray)
            have geP : B + 1 ≤ v3.heap.size := Nat.le_trans z0 HB3.out.size
            have HB4 : Hid (Below (B + 1) w0 (v3.alloc (.cells (nums (zs 32)).toArray 25))) := Lib.hid (HB3.out.alloc geP _)
            have HQ4 := Lib.hid (HQ3.out.alloc (.cells (nums (zs 32)).toArray 25))
            have ne : Q ≠ v3.heap.size := Nat.ne_of_lt HQ3.out.lt
            refine hK.out _ _ trivial (fun hHeld => ?_)
            clear hK K
            try simp only [Act.put, List.getElem_toArray, List.getElem_cons_zero, List.getElem_cons_succ, List.setIfInBounds_toArray, List.set_cons_zero, List.set_cons_succ]
            generalize v3.alloc (.cells (nums (zs 32)).toArray 25) = v4 at *
            generalize v3.heap.size = P at *
            have nePQ : P ≠ Q := Ne.symm ne
            refine wpAnyH_ready (rs := [10]) (by kernel_rfl) (by simp) (AllReadyH.cons rfl (fun K hK => ?_) AllReadyH.nil)
            try simp only [List.getElem_toArray, List.getElem_cons_zero, List.getElem_cons_succ]
            refine if_wanted (by rfl) ?_
            refine wp_store_row _ _ _ rfl P (nums x).toArray rfl rfl 25 _ HP4.out (by rw [row_size HX.out.1]; exact info32) (by rw [zs32_size, row_size HX.out.1]) (all_nums x) ?_
            refine hK.out _ _ trivial (fun hHeld => ?_)
            clear hK K
            try simp only [Act.put, List.getElem_toArray, List.getElem_cons_zero, List.getElem_cons_succ, List.setIfInBounds_toArray, List.set_cons_zero, List.set_cons_succ]
            have HP5 := Lib.hid (HP4.out.row (nums x).toArray)
            have HQ5 := Lib.hid (HQ4.out.rowFar (b := P) (Ne.symm nePQ) (nums x).toArray)
            have HB5 := Lib.hid (below_row HB4.out (g := P) geP (nums x).toArray)
            refine wpAnyH_ready (rs := [11]) (by kernel_rfl) (by simp) (AllReadyH.cons rfl (fun K hK => ?_) AllReadyH.nil)
            try simp only [List.getElem_toArray, List.getElem_cons_zero, List.getElem_cons_succ]
            refine if_wanted (by rfl) ?_
            refine wp_store_row _ _ _ rfl Q (nums y).toArray rfl rfl 25 _ HQ5.out (by rw [row_size HX.out.2.1]; exact info32) (by rw [zs32_size, row_size HX.out.2.1]) (all_nums y) ?_
            refine hK.out _ _ trivial (fun hHeld => ?_)
            clear hK K
            try simp only [Act.put, List.getElem_toArray, List.getElem_cons_zero, List.getElem_cons_succ, List.setIfInBounds_toArray, List.set_cons_zero, List.set_cons_succ]
            have HQ6 := Lib.hid (HQ5.out.row (nums y).toArray)
            have HP6 := Lib.hid (HP5.out.rowFar (b := Q) nePQ (nums y).toArray)
            have HB6 := Lib.hid (below_row HB5.out (g := Q) geQ (nums y).toArray)
            refine wpAnyH_done (by kernel_rfl) ?_ _
            go_wp2_with fail
            go_meet
            exact ⟨P, Q, rfl, rfl, Lib.hid ⟨HP6.out, HQ6.out, geP, geQ, HB6.out⟩⟩
        · skip
          try simp only [List.getElem_toArray, List.getElem_cons_zero, List.getElem_cons_succ]
          go_simp
          rw [zero32z]
          have HP3 := Lib.hid (Whole.new v2 25 (nums (zs 32)).toArray)
          have geP : B + 1 ≤ v2.heap.size := Nat.le_trans z0 HB2.out.size
          have HB3 : Hid (Below (B + 1) w0 (v2.alloc (.cells (nums (zs 32)).toArray 25))) := Lib.hid (HB2.out.alloc geP _)
          have HQ3 := Lib.hid (HQ2.out.alloc (.cells (nums (zs 32)).toArray 25))
          have ne : Q ≠ v2.heap.size := Nat.ne_of_lt HQ2.out.lt
          refine hK.out _ _ trivial (fun hHeld => ?_)
          clear hK K
          try simp only [Act.put, List.getElem_toArray, List.getElem_cons_zero, List.getElem_cons_succ, List.setIfInBounds_toArray, List.set_cons_zero, List.set_cons_succ]
          generalize v2.alloc (.cells (nums (zs 32)).toArray 25) = v3 at *
          generalize v2.heap.size = P at *
          refine wpAnyH_ready (rs := [7]) (by kernel_rfl) (by simp) (AllReadyH.cons rfl (fun K hK => ?_) AllReadyH.nil)
          · skip
            have hd3 := HC.out.below (HV.out v3 HB3.out) (fun b _ h => h)
            try simp only [List.getElem_toArray, List.getElem_cons_zero, List.getElem_cons_succ]
            go_simp
            go_at_call 42
            refine (IH.out (n - p) (by omega) hd3 (HR.out.below (HV.out v3 HB3.out) (by omega)) (by omega) (by omega)).mono ?_
            rintro e v4 ⟨rfl, hb3⟩
            rw [HYE.out]
            have HB4 : Hid (Below (B + 1) w0 v4) := Lib.hid (HB3.out.trans (hb3.mono (Nat.le_trans z0 HB3.out.size)))
            have HP4 := Lib.hid (HP3.out.below hb3 HP3.out.lt)
            have HQ4 := Lib.hid (HQ3.out.below hb3 HQ3.out.lt)
            clear hb3 hd3
            go_wp2_with fail
            refine hK.out _ _ trivial (fun hHeld => ?_)
            clear hK K
            try simp only [Act.put, List.getElem_toArray, List.getElem_cons_zero, List.getElem_cons_succ, List.setIfInBounds_toArray, List.set_cons_zero, List.set_cons_succ]
            have nePQ : P ≠ Q := Ne.symm ne
            refine wpAnyH_ready (rs := [10]) (by kernel_rfl) (by simp) (AllReadyH.cons rfl (fun K hK => ?_) AllReadyH.nil)
            try simp only [List.getElem_toArray, List.getElem_cons_zero, List.getElem_cons_succ]
            refine if_wanted (by rfl) ?_
            refine wp_store_row _ _ _ rfl P (nums x).toArray rfl rfl 25 _ HP4.out (by rw [row_size HX.out.1]; exact info32) (by rw [zs32_size, row_size HX.out.1]) (all_nums x) ?_
            refine hK.out _ _ trivial (fun hHeld => ?_)
            clear hK K
            try simp only [Act.put, List.getElem_toArray, List.getElem_cons_zero, List.getElem_cons_succ, List.setIfInBounds_toArray, List.set_cons_zero, List.set_cons_succ]
            have HP5 := Lib.hid (HP4.out.row (nums x).toArray)
            have HQ5 := Lib.hid (HQ4.out.rowFar (b := P) (Ne.symm nePQ) (nums x).toArray)
            have HB5 := Lib.hid (below_row HB4.out (g := P) geP (nums x).toArray)
            refine wpAnyH_ready (rs := [11]) (by kernel_rfl) (by simp) (AllReadyH.cons rfl (fun K hK => ?_) AllReadyH.nil)
            try simp only [List.getElem_toArray, List.getElem_cons_zero, List.getElem_cons_succ]
            refine if_wanted (by rfl) ?_
            refine wp_store_row _ _ _ rfl Q (nums y).toArray rfl rfl 25 _ HQ5.out (by rw [row_size HX.out.2.1]; exact info32) (by rw [zs32_size, row_size HX.out.2.1]) (all_nums y) ?_
            refine hK.out _ _ trivial (fun hHeld => ?_)
            clear hK K
            try simp only [Act.put, List.getElem_toArray, List.getElem_cons_zero, List.getElem_cons_succ, List.setIfInBounds_toArray, List.set_cons_zero, List.set_cons_succ]
            have HQ6 := Lib.hid (HQ5.out.row (nums y).toArray)
            have HP6 := Lib.hid (HP5.out.rowFar (b := Q) nePQ (nums y).toArray)
            have HB6 := Lib.hid (below_row HB5.out (g := Q) geQ (nums y).toArray)
            refine wpAnyH_done (by kernel_rfl) ?_ _
            go_wp2_with fail
            go_meet
            exact ⟨P, Q, rfl, rfl, Lib.hid ⟨HP6.out, HQ6.out, geP, geQ, HB6.out⟩⟩
      · skip
        try simp only [List.getElem_toArray, List.getElem_cons_zero, List.getElem_cons_succ]
        go_simp
        rw [zero32z]
        have HP2 := Lib.hid (Whole.new v1 25 (nums (zs 32)).toArray)
        have geP : B + 1 ≤ v1.heap.size := Nat.le_trans z0 HB1.out.size
        have HB2 : Hid (Below (B + 1) w0 (v1.alloc (.cells (nums (zs 32)).toArray 25))) := Lib.hid (HB1.out.alloc geP _)
        have HQ2 := Lib.hid (HQ1.out.alloc (.cells (nums (zs 32)).toArray 25))
        have ne : Q ≠ v1.heap.size := Nat.ne_of_lt HQ1.out.lt
        refine hK.out _ _ trivial (fun hHeld => ?_)
        clear hK K
        try simp only [Act.put, List.getElem_toArray, List.getElem_cons_zero, List.getElem_cons_succ, List.setIfInBounds_toArray, List.set_cons_zero, List.set_cons_succ]
        generalize v1.alloc (.cells (nums (zs 32)).toArray 25) = v2 at *
        generalize v1.heap.size = P at *
        refine wpAnyH_ready (rs := [3]) (by kernel_rfl) (by simp) (AllReadyH.cons rfl (fun K hK => ?_) AllReadyH.nil)
        · skip
          have hd2 := HA.out.below (HV.out v2 HB2.out) (fun b _ h => h)
          try simp only [List.getElem_toArray, List.getElem_cons_zero, List.getElem_cons_succ]
          go_simp
          go_at_call 42
          refine (IH.out p (by omega) hd2 (HR.out.below (HV.out v2 HB2.out) (by omega)) (by omega) (by omega)).mono ?_
          rintro e v3 ⟨rfl, hb2⟩
          rw [HXE.out]
          have HB3 : Hid (Below (B + 1) w0 v3) := Lib.hid (HB2.out.trans (hb2.mono (Nat.le_trans z0 HB2.out.size)))
          have HP3 := Lib.hid (HP2.out.below hb2 HP2.out.lt)
          have HQ3 := Lib.hid (HQ2.out.below hb2 HQ2.out.lt)
          clear hb2 hd2
          go_wp2_with fail
          refine hK.out _ _ trivial (fun hHeld => ?_)
          clear hK K
          try simp only [Act.put, List.getElem_toArray, List.getElem_cons_zero, List.getElem_cons_succ, List.setIfInBounds_toArray, List.set_cons_zero, List.set_cons_succ]
          refine wpAnyH_ready (rs := [7]) (by kernel_rfl) (by simp) (AllReadyH.cons rfl (fun K hK => ?_) AllReadyH.nil)
          · skip
            have hd3 := HC.out.below (HV.out v3 HB3.out) (fun b _ h => h)
            try simp only [List.getElem_toArray, List.getElem_cons_zero, List.getElem_cons_succ]
            go_simp
            go_at_call 42
            refine (IH.out (n - p) (by omega) hd3 (HR.out.below (HV.out v3 HB3.out) (by omega)) (by omega) (by omega)).mono ?_
            rintro e v4 ⟨rfl, hb3⟩
            rw [HYE.out]
            have HB4 : Hid (Below (B + 1) w0 v4) := Lib.hid (HB3.out.trans (hb3.mono (Nat.le_trans z0 HB3.out.size)))
            have HP4 := Lib.hid (HP3.out.below hb3 HP3.out.lt)
            have HQ4 := Lib.hid (HQ3.out.below hb3 HQ3.out.lt)
            clear hb3 hd3
            go_wp2_with fail
            refine hK.out _ _ trivial (fun hHeld => ?_)
            clear hK K
            try simp only [Act.put, List.getElem_toArray, List.getElem_cons_zero, List.getElem_cons_succ, List.setIfInBounds_toArray, List.set_cons_zero, List.set_cons_succ]
            have nePQ : P ≠ Q := Ne.symm ne
            refine wpAnyH_ready (rs := [10]) (by kernel_rfl) (by simp) (AllReadyH.cons rfl (fun K hK => ?_) AllReadyH.nil)
            try simp only [List.getElem_toArray, List.getElem_cons_zero, List.getElem_cons_succ]
            refine if_wanted (by rfl) ?_
            refine wp_store_row _ _ _ rfl P (nums x).toArray rfl rfl 25 _ HP4.out (by rw [row_size HX.out.1]; exact info32) (by rw [zs32_size, row_size HX.out.1]) (all_nums x) ?_
            refine hK.out _ _ trivial (fun hHeld => ?_)
            clear hK K
            try simp only [Act.put, List.getElem_toArray, List.getElem_cons_zero, List.getElem_cons_succ, List.setIfInBounds_toArray, List.set_cons_zero, List.set_cons_succ]
            have HP5 := Lib.hid (HP4.out.row (nums x).toArray)
            have HQ5 := Lib.hid (HQ4.out.rowFar (b := P) (Ne.symm nePQ) (nums x).toArray)
            have HB5 := Lib.hid (below_row HB4.out (g := P) geP (nums x).toArray)
            refine wpAnyH_ready (rs := [11]) (by kernel_rfl) (by simp) (AllReadyH.cons rfl (fun K hK => ?_) AllReadyH.nil)
            try simp only [List.getElem_toArray, List.getElem_cons_zero, List.getElem_cons_succ]
            refine if_wanted (by rfl) ?_
            refine wp_store_row _ _ _ rfl Q (nums y).toArray rfl rfl 25 _ HQ5.out (by rw [row_size HX.out.2.1]; exact info32) (by rw [zs32_size, row_size HX.out.2.1]) (all_nums y) ?_
            refine hK.out _ _ trivial (fun hHeld => ?_)
            clear hK K
            try simp only [Act.put, List.getElem_toArray, List.getElem_cons_zero, List.getElem_cons_succ, List.setIfInBounds_toArray, List.set_cons_zero, List.set_cons_succ]
            have HQ6 := Lib.hid (HQ5.out.row (nums y).toArray)
            have HP6 := Lib.hid (HP5.out.rowFar (b := Q) nePQ (nums y).toArray)
            have HB6 := Lib.hid (below_row HB5.out (g := Q) geQ (nums y).toArray)
            refine wpAnyH_done (by kernel_rfl) ?_ _
            go_wp2_with fail
            go_meet
            exact ⟨P, Q, rfl, rfl, Lib.hid ⟨HP6.out, HQ6.out, geP, geQ, HB6.out⟩⟩
  case rest =>
    obtain ⟨P, Q, rfl, rfl, HH⟩ := hcut
    have K1 := Lib.hid (H0.out.1.below HH.out.2.2.2.2 (by omega))
    have HBW : Hid (Below B w wc) := Lib.hid (HV.out wc HH.out.2.2.2.2)
    have HPQ := Lib.hid (And.intro HH.out.1 HH.out.2.1)
    have zc : B + 1 ≤ wc.heap.size := Nat.le_trans z0 HH.out.2.2.2.2.size
    clear HH HV H0
    go_wp2_with fail
    refine wp_region_held_drew (S := fun _ => True) (by kernel_rfl) trivial (fun hHeld => ?_)
    have K2 : Hid (Whole wc.drew B 25 (nums (zs 32)).toArray) := Lib.hid K1.out
    have HPQ2 : Hid (Whole wc.drew P 25 (nums x).toArray ∧ Whole wc.drew Q 25 (nums y).toArray) := Lib.hid HPQ.out
    have HB2 : Hid (Below B w wc.drew) := Lib.hid HBW.out.drew
    have z2 : B + 1 ≤ wc.drew.heap.size := zc
    generalize wc.drew = v0 at *
    clear K1 HPQ HBW
    refine wpAnyH_take (i := 1) (v := .slice (some ⟨P, 0, none⟩) 32 32) rfl (by kernel_rfl) (by kernel_rfl) (by kernel_rfl) (fun _ _ _ h => h) (Or.inl ⟨by rfl, (by intro w hSw; (try dsimp only at hSw); go_simp)⟩) (by assumption) ?_
    try simp only [Act.put, List.getElem_toArray, List.getElem_cons_zero, List.getElem_cons_succ, List.setIfInBounds_toArray, List.set_cons_zero, List.set_cons_succ]
    refine wpAnyH_take (i := 2) (v := .slice (some ⟨Q, 0, none⟩) 32 32) rfl (by kernel_rfl) (by kernel_rfl) (by kernel_rfl) (fun _ _ _ h => h) (Or.inl ⟨by rfl, (by intro w hSw; (try dsimp only at hSw); go_simp)⟩) (by assumption) ?_
    try simp only [Act.put, List.getElem_toArray, List.getElem_cons_zero, List.getElem_cons_succ, List.setIfInBounds_toArray, List.set_cons_zero, List.set_cons_succ]
    refine wpAnyH_ready (rs := [0]) (by kernel_rfl) (by simp) (AllReadyH.cons rfl (fun K hK => ?_) AllReadyH.nil)
    try simp only [List.getElem_toArray, List.getElem_cons_zero, List.getElem_cons_succ]
    go_simp
    refine hK.out _ _ trivial (fun hHeld => ?_)
    clear hK K
    try simp only [Act.put, List.getElem_toArray, List.getElem_cons_zero, List.getElem_cons_succ, List.setIfInBounds_toArray, List.set_cons_zero, List.set_cons_succ]
    have o1 := Whole.new v0 5 #[.int .u8 1]
    have K3 := Lib.hid (K2.out.alloc (.cells #[.int .u8 1] 5))
    have HPQ3 := Lib.hid (And.intro (HPQ2.out.1.alloc (.cells #[.int .u8 1] 5)) (HPQ2.out.2.alloc (.cells #[.int .u8 1] 5)))
    have HB3 := Lib.hid (HB2.out.alloc (by omega) (.cells #[.int .u8 1] 5))
    have z3 : v0.heap.size < (v0.alloc (.cells #[.int .u8 1] 5)).heap.size := o1.lt
    generalize v0.alloc (.cells #[.int .u8 1] 5) = v1 at *
    generalize v0.heap.size = O at *
    have HO := Lib.hid o1
    clear o1 K2 HPQ2 HB2
    refine wpAnyH_ready (rs := [3]) (by kernel_rfl) (by simp) (AllReadyH.cons rfl (fun K hK => ?_) AllReadyH.nil)
    try simp only [List.getElem_toArray, List.getElem_cons_zero, List.getElem_cons_succ]
    go_simp
    refine hK.out _ _ trivial (fun hHeld => ?_)
    clear hK K
    try simp only [Act.put, List.getElem_toArray, List.getElem_cons_zero, List.getElem_cons_succ, List.setIfInBounds_toArray, List.set_cons_zero, List.set_cons_succ]
    have q1 := Whole.new v1 23 #[.slice (some ⟨O, 0, none⟩) 1 1, .slice (some ⟨P, 0, none⟩) 32 32, .slice (some ⟨Q, 0, none⟩) 32 32]
    have K4 := Lib.hid (K3.out.alloc (.cells #[.slice (some ⟨O, 0, none⟩) 1 1, .slice (some ⟨P, 0, none⟩) 32 32, .slice (some ⟨Q, 0, none⟩) 32 32] 23))
    have HPQ4 := Lib.hid (And.intro (HPQ3.out.1.alloc (.cells #[.slice (some ⟨O, 0, none⟩) 1 1, .slice (some ⟨P, 0, none⟩) 32 32, .slice (some ⟨Q, 0, none⟩) 32 32] 23)) (HPQ3.out.2.alloc (.cells #[.slice (some ⟨O, 0, none⟩) 1 1, .slice (some ⟨P, 0, none⟩) 32 32, .slice (some ⟨Q, 0, none⟩) 32 32] 23)))
    have HO4 := Lib.hid (HO.out.alloc (.cells #[.slice (some ⟨O, 0, none⟩) 1 1, .slice (some ⟨P, 0, none⟩) 32 32, .slice (some ⟨Q, 0, none⟩) 32 32] 23))
    have HB4 := Lib.hid (HB3.out.alloc (by omega) (.cells #[.slice (some ⟨O, 0, none⟩) 1 1, .slice (some ⟨P, 0, none⟩) 32 32, .slice (some ⟨Q, 0, none⟩) 32 32] 23))
    generalize v1.alloc (.cells #[.slice (some ⟨O, 0, none⟩) 1 1, .slice (some ⟨P, 0, none⟩) 32 32, .slice (some ⟨Q, 0, none⟩) 32 32] 23) = v2 at *
    generalize v1.heap.size = L at *
    have HQ := Lib.hid q1
    clear q1 K3 HPQ3 HB3 HO
    refine wpAnyH_ready (rs := [4]) (by kernel_rfl) (by simp) (AllReadyH.cons rfl (fun K hK => ?_) AllReadyH.nil)
    try simp only [List.getElem_toArray, List.getElem_cons_zero, List.getElem_cons_succ]
    go_simp
    go_at_call 32
    have hp := parts_three (S := fun _ => True) HQ.out trivial (txt_of_whole (fun _ => True) trivial (l := [1]) HO4.out (byt_cons (by omega) (by omega) byt_nil) 1 1 (by simp) (by omega)) (txt_dig HPQ4.out.1 HX.out.1) (txt_dig HPQ4.out.2 HX.out.2.1)
    refine (sum_any hp (HR.out.below HB4.out (by omega)) (by simp [HX.out.1.1, HX.out.2.1.1]) (by omega)).mono ?_
    rintro e v3 ⟨rfl, hb3⟩
    rw [show [List.take 1 [1], x, y].flatten = 1 :: (x ++ y) by simp, ← HT.out]
    have K5 := Lib.hid (K4.out.below hb3 K4.out.lt)
    have HB5 : Hid (Below B w v3) := Lib.hid (HB4.out.trans (hb3.mono (Nat.le_of_lt K4.out.lt)))
    clear hp hb3
    go_wp2_with fail
    refine hK.out _ _ trivial (fun hHeld => ?_)
    clear hK K
    try simp only [Act.put, List.getElem_toArray, List.getElem_cons_zero, List.getElem_cons_succ, List.setIfInBounds_toArray, List.set_cons_zero, List.set_cons_succ]
    refine wpAnyH_ready (rs := [5]) (by kernel_rfl) (by simp) (AllReadyH.cons rfl (fun K hK => ?_) AllReadyH.nil)
    try simp only [List.getElem_toArray, List.getElem_cons_zero, List.getElem_cons_succ]
    refine if_wanted (by rfl) ?_
    refine wp_store_row _ _ _ rfl B (nums res).toArray rfl rfl 25 _ K5.out (by rw [row_size HX.out.2.2]; exact info32) (by rw [zs32_size, row_size HX.out.2.2]) (all_nums res) ?_
    refine hK.out _ _ trivial (fun hHeld => ?_)
    clear hK K
    try simp only [Act.put, List.getElem_toArray, List.getElem_cons_zero, List.getElem_cons_succ, List.setIfInBounds_toArray, List.set_cons_zero, List.set_cons_succ]
    refine wpAnyH_done (by kernel_rfl) ?_ _
    go_wp2
    refine bodyPost_ret (results_one_cell rfl _ _ _ _ rfl (run_loadVar_row _ _ _ _ _ (0, 0) _ (K5.out.row (nums res).toArray) und32 rfl (by rw [row_size HX.out.2.2]; exact info32))) rfl ?_
    exact ⟨rfl, by rw [HBE.out]; exact below_row HB5.out (Nat.le_refl _) _⟩
end Go.Proofs.YtdjibhpjdhpcgaaDoor
namespace Go.Proofs.YtdjibhpjdhpcgaaDoor
set_option maxRecDepth 20000
open Go.RowKit

theorem part_u8 {x : List Int} {i : Nat} (h : i < x.length) (w : World) : (part 5 (nums x).toArray i).run Tryd.prog w = .ok (.int .u8 (x.getD i 0)) w := by
  have ha : (isAgg 5).run Tryd.prog w = .ok false w := by
    unfold isAgg
    rw [Sem.run_bind, run_underlying Tryd.underlying5 w]
    rfl
  unfold part
  rw [Sem.run_bind, ha]
  simp only [Result.andThen_ok, Bool.false_eq_true, if_false, List.getElem?_toArray, nums_get x i h]
  rfl

theorem loop32 (D : Nat) (hD : ∀ (a b : Int) (w : World), (Op.equalIn D 5 (.int .u8 a) (.int .u8 b)).run Tryd.prog w = .ok (a == b) w) (x y : List Int) (w : World) :
    ∀ is : List Nat, (∀ i ∈ is, i < x.length ∧ i < y.length) →
    (forIn (m := Sem) is ((none, ()) : Option Bool × Unit) fun i __s => do
        let a ← part 5 (nums x).toArray (i * 1)
        let b ← part 5 (nums y).toArray (i * 1)
        let r ← Op.equalIn D 5 a b
        if (!r) = true then pure (ForInStep.done (some false, ())) else pure (ForInStep.yield (none, ()))).run Tryd.prog w =
      .ok (if is.all (fun i => x.getD i 0 == y.getD i 0) then (none, ()) else (some false, ())) w := by
  intro is
  induction is with
  | nil => intro _; rfl
  | cons i is ih =>
    intro h
    have hi := h i (by simp)
    have ih' := ih (fun j hj => h j (by simp [hj]))
    rw [List.forIn_cons]
    simp only [Sem.run_bind, Nat.mul_one, part_u8 hi.1, part_u8 hi.2, hD, Result.andThen_ok]
    by_cases e : x.getD i 0 = y.getD i 0
    · have eb : (x.getD i 0 == y.getD i 0) = true := beq_iff_eq.2 e
      rw [eb]
      simp only [Bool.not_true, Bool.false_eq_true, if_false, Sem.run_pure, Result.andThen_ok]
      have := ih'
      simp only [Nat.mul_one] at this
      rw [this, List.all_cons, eb, Bool.true_and]
    · have eb : (x.getD i 0 == y.getD i 0) = false := beq_eq_false_iff_ne.2 e
      rw [eb]
      simp only [Bool.not_false, if_true, Sem.run_pure, Result.andThen_ok]
      have e2 : ((i :: is).all fun i => x.getD i 0 == y.getD i 0) = false := by rw [List.all_cons, eb]; rfl
      rw [e2]
      rfl
theorem all_range {x y : List Int} (hx : x.length = 32) (hy : y.length = 32) : ((List.range' 0 32).all fun i => x.getD i 0 == y.getD i 0) = decide (x = y) := by
  rw [Bool.eq_iff_iff]
  simp only [List.all_eq_true, decide_eq_true_eq, List.mem_range'_1, beq_iff_eq]
  constructor
  · intro h
    apply List.ext_getElem (by omega)
    intro i h1 h2
    have := h i (by omega)
    simpa [h1, h2] using this
  · intro h i _
    rw [h]
theorem equal32 (D : Nat) (hD : ∀ (a b : Int) (w : World), (Op.equalIn D 5 (.int .u8 a) (.int .u8 b)).run Tryd.prog w = .ok (a == b) w) (x y : List Int) (hx : x.length = 32) (hy : y.length = 32) (w : World) :
    (Op.equalIn (D + 1) 25 (.agg (nums x).toArray) (.agg (nums y).toArray)).run Tryd.prog w = .ok (decide (x = y)) w := by
  simp only [Op.equalIn, Sem.run_bind, run_underlying und32, Result.andThen_ok, sz_u8]
  have h := loop32 D hD x y w (List.range' 0 32) (fun i hi => by simp at hi; omega)
  rw [Std.Legacy.Range.forIn_eq_forIn_range']
  have e : (List.range' ([:32] : Std.Legacy.Range).start ([:32] : Std.Legacy.Range).size ([:32] : Std.Legacy.Range).step) = List.range' 0 32 := rfl
  rw [e, h, all_range hx hy]
  by_cases hxy : x = y
  · simp [hxy]
  · simp [hxy]
theorem eql32 (x y : List Int) (hx : x.length = 32) (hy : y.length = 32) (w : World) : (binOp .eql 25 (.agg (nums x).toArray) (.agg (nums y).toArray)).run Tryd.prog w = .ok (.bool (decide (x = y))) w := by
  have h := equal32 9999 (fun a b w => run_equalIn_int w 9998 5 .u8 .u8 a b Tryd.underlying5) x y hx hy w
  rw [run_eql_struct w, h]
  rfl
theorem neq32 (x y : List Int) (hx : x.length = 32) (hy : y.length = 32) (w : World) : (binOp .neq 25 (.agg (nums x).toArray) (.agg (nums y).toArray)).run Tryd.prog w = .ok (.bool (!decide (x = y))) w := by
  have h := equal32 9999 (fun a b w => run_equalIn_int w 9998 5 .u8 .u8 a b Tryd.underlying5) x y hx hy w
  rw [run_neq_struct w, h]
  rfl
end Go.Proofs.YtdjibhpjdhpcgaaDoor
namespace Go.Proofs.YtdjibhpjdhpcgaaDoor
set_option maxRecDepth 20000
open Go.ChangeShapes Go.WideShapes Go.RowKit Go.Deep

theorem u8_in {n : Int} (h : (Lit.int .u8 n).wf = true) : 0 ≤ n ∧ n < 256 := by
  simp [Lit.wf, IntKind.min, IntKind.max, IntKind.signed, IntKind.bits] at h
  omega
theorem u32_in {n : Int} (h : (Lit.int .u32 n).wf = true) : 0 ≤ n ∧ n < 4294967296 := by
  simp [Lit.wf, IntKind.min, IntKind.max, IntKind.signed, IntKind.bits] at h
  omega
theorem i64_in {n : Int} (h : (Lit.int .i64 n).wf = true) : -9223372036854775808 ≤ n ∧ n ≤ 9223372036854775807 := by
  simp [Lit.wf, IntKind.min, IntKind.max, IntKind.signed, IntKind.bits] at h
  omega
/-- What came in: nil, or a row of numbers. -/
def Row (k : IntKind) (w : World) (a : Option Addr) (len cap : Nat) (zs : List Int) : Prop :=
  (a = none ∧ len = 0 ∧ cap = 0 ∧ zs = []) ∨
  ∃ x, a = some x ∧ len ≤ cap ∧ cap ≤ maxLen ∧ zs.length = cap ∧ (∀ i, i < zs.length → w.cell? (x.add i) = some (.int k (zs.getD i 0))) ∧ ∀ n ∈ zs, (Lit.int k n).wf = true
theorem row_txt {w : World} {a : Option Addr} {len cap : Nat} {zs : List Int} (h : Row .u8 w a len cap zs) : ∃ l, Txt w (· < w.heap.size) a len cap l := by
  rcases h with ⟨_, h0, h1, _⟩ | ⟨x, rfl, hle, _, hz, hc, hw⟩
  · subst h0 h1
    exact ⟨[], Txt.nil _ _ _ _⟩
  · have hby : Byt (zs.take len) := by
      intro y hy
      exact u8_in (hw y (List.mem_of_mem_take hy))
    by_cases h0 : len = 0
    · subst h0
      exact ⟨[], rfl, by omega, byt_nil, Or.inl rfl⟩
    · obtain ⟨b, off, rfl, hc'⟩ := ints_at hc (by omega)
      refine ⟨zs.take len, by simp; omega, hle, hby, Or.inr ⟨b, off, rfl, World.block_lt_of_cell? w _ (hc' 0 (by omega)), World.block_lt_of_cell? w _ (hc' 0 (by omega)), fun k hk => ?_⟩⟩
      rw [hc' k (by omega)]
      have hk' : k < zs.length := by omega
      simp [hk', hk]
/-- Numbers that came in. -/
def Nums (w : World) (a : Option Addr) (n : Nat) (l : List Int) : Prop :=
  l.length = n ∧ (∀ x ∈ l, -9223372036854775808 ≤ x ∧ x ≤ 9223372036854775807) ∧ (l = [] ∨ ∃ b off, a = some ⟨b, off, none⟩ ∧ b < w.heap.size ∧ ∀ k, k < n → w.cell? ⟨b, off + k, none⟩ = some (.int .i64 (l.getD k 0)))
theorem row_nums {w : World} {a : Option Addr} {len cap : Nat} {zs : List Int} (h : Row .i64 w a len cap zs) : ∃ l, Nums w a len l := by
  rcases h with ⟨_, h0, h1, _⟩ | ⟨x, rfl, hle, _, hz, hc, hw⟩
  · subst h0 h1
    exact ⟨[], rfl, (fun x hx => by cases hx), Or.inl rfl⟩
  · by_cases h0 : len = 0
    · subst h0
      exact ⟨[], rfl, (fun x hx => by cases hx), Or.inl rfl⟩
    · obtain ⟨b, off, rfl, hc'⟩ := ints_at hc (by omega)
      refine ⟨zs.take len, by simp; omega, fun y hy => i64_in (hw y (List.mem_of_mem_take hy)), Or.inr ⟨b, off, rfl, World.block_lt_of_cell? w _ (hc' 0 (by omega)), fun k hk => ?_⟩⟩
      rw [hc' k (by omega)]
      have hk' : k < zs.length := by omega
      simp [hk', hk]
section
variable {H : Type} {enc : TypeId × Value → H} {w : World}
theorem some_of {xs : List (DataW H × List MemPlace)} {n i : Nat} (h : xs.length = n) (hi : i < n) : ∃ y, xs[i]? = some y := ⟨xs[i]'(by omega), List.getElem?_eq_getElem (by omega)⟩
/-- Thirty-two bytes that came in. -/
theorem open_h32 {m : Nat} {r : List Value} {x : DataW H × List MemPlace} (hr : r.length = 32) (h : DataW.trod enc Tryd.prog w 0 (fun _ => true) true m 25 r = some x) : ∃ l : List Int, Dig l ∧ r = nums l := by
  obtain ⟨xs, m', _, _, _, hxl, hi⟩ := DataW.trod_array und32 h
  have hc : Tryd.prog.cellsOf 5 = 1 := by kernel_rfl
  obtain ⟨f, hf⟩ := choose_lt (α := Int) (n := 32) (p := fun i v => r[i]? = some (.int .u8 v) ∧ 0 ≤ v ∧ v < 256) (fun i hlt => by
    have h1 := hi i hlt
    obtain ⟨y, hy⟩ := some_of hxl hlt
    rw [hy, hc, Nat.mul_one] at h1
    obtain ⟨n, hn, _, hw⟩ := DataW.trod_int Tryd.underlying5 h1
    refine ⟨n, ?_, u8_in hw⟩
    rw [List.drop_eq_getElem_cons (by omega)] at hn
    simp only [List.take_succ_cons, List.take_zero, List.cons.injEq, and_true] at hn
    rw [List.getElem?_eq_getElem (by omega), hn])
  refine ⟨(List.range 32).map f, ⟨by simp, ?_⟩, ?_⟩
  · intro y hy
    obtain ⟨i, hi', rfl⟩ := List.mem_map.1 hy
    exact (hf i (List.mem_range.1 hi')).2
  · apply List.ext_getElem?
    intro i
    by_cases h32 : i < 32
    · rw [(hf i h32).1, nums_get _ i (by simpa using h32)]
      simp [h32]
    · rw [List.getElem?_eq_none (by omega), List.getElem?_eq_none (by rw [nums_len]; simp; omega)]
theorem open_hash {base : Nat} {r : Reach} {v : Value} {d : DataW H} {ps : List MemPlace} (hv : Value.okWide Tryd.prog w r base 25 v) (h : DataW.Trod enc Tryd.prog w 0 (fun _ => true) true 25 v d ps) : ∃ l : List Int, Dig l ∧ v = .agg (nums l).toArray := by
  simp only [Value.okWide, und32] at hv
  obtain ⟨cs, rfl, h2, _⟩ := hv
  obtain ⟨fuel, hf⟩ := h
  have h32 : cs.size = 32 := by rw [h2]; kernel_rfl
  obtain ⟨l, hl, e⟩ := open_h32 (r := cs.toList) (by simpa using h32) (by simpa [Value.cells] using hf)
  refine ⟨l, hl, ?_⟩
  rw [← e]
theorem open_txt {m : Nat} {v : Value} {x : DataW H × List MemPlace} (h : DataW.trod enc Tryd.prog w 0 (fun _ => true) true m 23 [v] = some x) : ∃ a n c l, v = .slice a n c ∧ Txt w (· < w.heap.size) a n c l := by
  rcases open_ints Tryd.underlying23 Tryd.underlying5 (by kernel_rfl) h with ⟨hcs, _⟩ | ⟨x, l, c, zs, hcs, _, hl, hm, hz, _, hcell, hwz⟩
  · injection hcs with hcs _
    exact ⟨none, 0, 0, [], hcs, Txt.nil _ _ _ _⟩
  · injection hcs with hcs _
    obtain ⟨l', ht⟩ := row_txt (w := w) (a := some x) (len := l) (cap := c) (zs := zs) (.inr ⟨_, rfl, hl, hm, by simpa using hz, hcell, hwz⟩)
    exact ⟨_, _, _, l', hcs, ht⟩
/-- A row of digests that came in. -/
theorem open_digs {m : Nat} {a : Option Addr} {len cap : Nat} {x : DataW H × List MemPlace} (h : DataW.trod enc Tryd.prog w 0 (fun _ => true) true m 24 [.slice a len cap] = some x) :
    ∃ ds, len ≤ cap ∧ Digs w (· < w.heap.size) a len ds := by
  have k32 : Tryd.prog.cellsOf 25 = 32 := by kernel_rfl
  rcases open_slice Tryd.underlying24 h with ⟨hcs, _⟩ | ⟨ad, l, c, m', n, D, Pl, hcs, _, hl, _, hm, _, hi⟩
  · injection hcs with hcs _
    injection hcs with e1 e2 e3
    subst e1 e2 e3
    exact ⟨[], Nat.le_refl _, Digs.nil _ _ _⟩
  · injection hcs with hcs _
    injection hcs with e1 e2 e3
    subst e1 e2 e3
    have hm' : m' = cap := by simpa using hm
    subst hm'
    rw [k32] at hi
    by_cases h0 : len = 0
    · subst h0
      exact ⟨[], Nat.zero_le _, Digs.nil _ _ _⟩
    · obtain ⟨b, off, spot⟩ := ad
      have hspot : spot = none := by
        obtain ⟨cs', h1, h2⟩ := hi 0 (by omega)
        obtain ⟨_, hlen, hat⟩ := World.cells?_some h1
        obtain ⟨p, hok, hcs⟩ := open_h32 hlen h2
        have := hat 0 (by omega)
        rw [hcs, nums_get _ _ (by rw [hok.1]; omega)] at this
        simpa [Addr.add] using World.cell?_spot this
      subst hspot
      obtain ⟨f, hf⟩ := choose_lt (α := List Int) (n := len) (p := fun i p => Dig p ∧ w.rangeAt b (off + i * 32) (nums p)) (fun i hlt => by
        obtain ⟨cs', h1, h2⟩ := hi i (by omega)
        obtain ⟨_, hlen, hat⟩ := World.cells?_some h1
        obtain ⟨p, hok, rfl⟩ := open_h32 hlen h2
        refine ⟨p, hok, fun j u hu => ?_⟩
        have hj : j < 32 := by
          have := (List.getElem?_eq_some_iff.1 hu).1
          rw [nums_len, hok.1] at this; exact this
        have := hat j hj
        rw [add_add, add_plain] at this
        rw [← hu, ← this, Nat.add_assoc])
      refine ⟨(List.range len).map f, hl, by simp, ?_, Or.inr ⟨b, off, rfl, ?_, ?_, ?_⟩⟩
      · intro p hp
        obtain ⟨i, hi', rfl⟩ := List.mem_map.1 hp
        exact (hf i (List.mem_range.1 hi')).1
      · have h := hf 0 (by omega)
        exact World.block_lt_of_cell? w _ (h.2 0 _ (nums_get _ 0 (by rw [h.1.1]; omega)))
      · have h := hf 0 (by omega)
        exact World.block_lt_of_cell? w _ (h.2 0 _ (nums_get _ 0 (by rw [h.1.1]; omega)))
      · intro i hlt
        have := (hf i hlt).2
        simpa [hlt] using this
end
/-- The data that the rows list. -/
def laid2 : List (String × DataW Unit) := Rows.manifestNamesRow.laid
def nameAt (i : Nat) : String := ((laid2[i]?).map (·.1)).getD ""
theorem globalH : Tryd.prog.globalNamed (nameAt 0) = some 0 := by kernel_rfl
theorem globalK : Tryd.prog.globalNamed (nameAt 1) = some 1 := by kernel_rfl
theorem globalHt : (Tryd.prog.globals[0]?).map (·.type) = some 69 := by kernel_rfl
theorem globalKt : (Tryd.prog.globals[1]?).map (·.type) = some 99 := by kernel_rfl
theorem datumH : (Rows.laid_shipwright_sha_squareRoots : DataW Unit) = .agg (Sm.rH.map fun x => .lit (.int .u32 (num x))) := by kernel_rfl
theorem datumK : (Rows.laid_shipwright_sha_cubeRoots : DataW Unit) = .agg (Sm.rK.map fun x => .lit (.int .u32 (num x))) := by kernel_rfl
theorem table {H : Type} {enc : TypeId × Value → H} {w : World} {T : TypeId} {n fuel : Nat} {cs : List Value} {l : List (BitVec 32)} {q : List MemPlace} (hu : Tryd.prog.underlying T = some (.array n 46)) (hn : Tryd.prog.cellsOf T = n) (hl : l.length = n) {b : Bool}
    (h : DataW.trod enc Tryd.prog w 0 (fun _ => true) b fuel T cs = some (.agg (l.map fun x => .lit (.int .u32 (num x))), q)) : cs = wds l := by
  obtain ⟨xs, m', _, hx, hlen, hxl, hi⟩ := DataW.trod_array hu h
  have hc : Tryd.prog.cellsOf 46 = 1 := by kernel_rfl
  simp only [Prod.mk.injEq, DataW.agg.injEq] at hx
  rw [hn] at hlen
  apply List.ext_getElem?
  intro i
  by_cases hlt : i < n
  · have h1 := hi i hlt
    obtain ⟨y, hy⟩ := some_of hxl hlt
    rw [hy, hc, Nat.mul_one] at h1
    obtain ⟨k, hk, hyk, _⟩ := DataW.trod_int Tryd.underlying46 h1
    have hil : i < cs.length := by omega
    rw [List.drop_eq_getElem_cons hil] at hk
    simp only [List.take_succ_cons, List.take_zero, List.cons.injEq, and_true] at hk
    rw [List.getElem?_eq_getElem hil, hk, wds_get _ _ (by omega)]
    have h2 : (l.map fun x => (DataW.lit (Lit.int .u32 (num x)) : DataW H))[i]? = (xs.map (·.1))[i]? := by rw [hx.1]
    rw [List.getElem?_map, List.getElem?_map, hy, hyk] at h2
    have hli : i < l.length := by omega
    rw [List.getElem?_eq_getElem hli] at h2
    simp at h2
    simp [hli, h2]
  · rw [List.getElem?_eq_none (by omega), List.getElem?_eq_none (by rw [wds_len]; omega)]
theorem var_block {w : World} {n : String} {g : Nat} {cs : Array Value} (hg : Tryd.prog.globalNamed n = some g) (h : w.var? Tryd.prog n = some cs) : ∃ t fr, w.heap[g]? = some (.cells cs t fr) := by
  unfold World.var? at h
  rw [hg] at h
  simp only [Option.bind_some] at h
  split at h
  · rename_i c t fr hh
    injection h with h
    subst h
    exact ⟨_, _, hh⟩
  · cases h
theorem roots_of {w : World} (h : laidMetH Tryd.prog laid2 w) : Roots w := by
  rw [MakeChecks.laidMetH_plain _ _ _ (by kernel_rfl)] at h
  obtain ⟨ps, ⟨g0, t0, cs0, f0, p0, q0, hg0, ht0, hv0, hd0, ⟨g1, t1, cs1, f1, p1, q1, hg1, ht1, hv1, hd1, _, _⟩, _⟩, _, _⟩ := h
  obtain rfl := Option.some.inj (globalH.symm.trans hg0)
  obtain rfl := Option.some.inj (globalK.symm.trans hg1)
  obtain rfl := Option.some.inj (globalHt.symm.trans ht0)
  obtain rfl := Option.some.inj (globalKt.symm.trans ht1)
  rw [datumH] at hd0
  rw [datumK] at hd1
  have e0 := table (l := Sm.rH) undW8 (by kernel_rfl) rfl hd0
  have e1 := table (l := Sm.rK) undW64 (by kernel_rfl) rfl hd1
  obtain ⟨c0⟩ := cs0
  obtain ⟨c1⟩ := cs1
  simp only at e0 e1
  subst e0 e1
  exact ⟨var_block hg0 hv0, var_block hg1 hv1⟩
end Go.Proofs.YtdjibhpjdhpcgaaDoor
