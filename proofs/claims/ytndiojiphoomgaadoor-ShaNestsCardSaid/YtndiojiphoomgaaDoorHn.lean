/-
  The walk of the statement ShaNests.
-/
import Derived.Test.YtndiojiphoomgaaDoorHv
namespace Go.Proofs.YtndiojiphoomgaaDoor
open Go.RowKit
/-- What the statement's loop leaves: the key's block, changed, as far as k bytes. -/
def half (y : Int) (l : List Int) (k : Nat) : List Int := (Sm.chg y (Sm.kb l)).take k ++ zs (64 - k)
theorem half_len (y : Int) (l : List Int) (k : Nat) (hk : k ≤ 64) : (half y l k).length = 64 := by
  simp [half, chg_len, kb_len, zs_len]; omega
theorem half_set (y : Int) (l : List Int) (k : Nat) (hk : k < 64) (x : Int) (hx : (Sm.kb l).getD k 0 = x) : (nums (half y l k)).toArray.setIfInBounds k (.int .u8 ((x.toNat ^^^ y.toNat : Nat) : Int)) = (nums (half y l (k + 1))).toArray := by
  have hl : k < (Sm.chg y (Sm.kb l)).length := by rw [chg_len, kb_len]; omega
  have hl2 : k < (Sm.kb l).length := by rw [kb_len]; omega
  have e : zs (64 - k) = 0 :: zs (64 - (k + 1)) := by
    unfold zs
    rw [show 64 - k = (64 - (k + 1)) + 1 by omega, List.replicate_succ]
  have e2 : (Sm.chg y (Sm.kb l)).take (k + 1) = (Sm.chg y (Sm.kb l)).take k ++ [((x.toNat ^^^ y.toNat : Nat) : Int)] := by
    rw [List.take_succ_eq_append_getElem hl]
    congr 2
    have : (Sm.kb l)[k] = x := by rw [← hx]; simp [hl2]
    simp [Sm.chg, this]
  unfold half
  rw [e, e2, List.append_assoc, nums_set _ _ _ _ _ (by rw [List.length_take]; omega)]
  rfl
theorem kb_get (l : List Int) (k : Nat) (hl : l.length ≤ 64) : (Sm.kb l).getD k 0 = if k < l.length then l.getD k 0 else 0 := by
  unfold Sm.kb
  rw [if_neg (by omega)]
  split
  · rename_i h; simp [h, List.getElem?_append_left]
  · rename_i h
    simp only [List.getD_eq_getElem?_getD, List.getElem?_append_right (by omega : l.length ≤ k)]
    by_cases h2 : k - l.length < 64 - l.length
    · simp [h2]
    · simp [h2]
theorem make64 (w : World) : (Instr.makeSlice 22 (.int .i64 64) (.int .i64 64)).run Tryd.prog w = .ok (.slice (some ⟨w.heap.size, 0, none⟩) 64 64) (w.alloc (.cells (nums (zs 64)).toArray 5)) := by
  obtain ⟨i0, hi0, hz0, hz1, hz2⟩ := info_parts u8_info
  have h := run_make (P := Tryd.prog) w 22 5 i0 (.int .u8 0) Tryd.underlying22 hi0 hz0 .i64 .i64 64 64 (by omega) (by omega) (by rw [hz2]; decide) (by omega)
  rw [hz1, show madeCells (Value.int .u8 0).cells ((64 : Int).toNat * 1) = (nums (zs 64)).toArray by kernel_rfl] at h
  exact h
set_option linter.unusedSimpArgs false in
set_option maxHeartbeats 4000000 in
theorem nests_walk (a0 : Option Addr) (n0 c0 : Nat) (l0 : List Int) (a1 : Option Addr) (n1 c1 : Nat) (l1 : List Int) (w : World) (hR : Roots w) (h0 : Txt w (· < w.heap.size) a0 n0 c0 l0) (h1 : Txt w (· < w.heap.size) a1 n1 c1 l1) :
    Calls Tryd.prog 8 #[.slice a0 n0 c0, .slice a1 n1 c1] w fun e w' => e = .returned (.bool true) ∧ Below w.heap.size w w' := by
  have H0 := Lib.hid h0
  have H1 := Lib.hid h1
  have HR := Lib.hid hR
  have hB2 := hR.two
  clear h0 h1 hR
  by_cases g0 : 64 < n0
  · have d0 : decide ((64 : Int) < (n0 : Int)) = true := by simp; omega
    go_enter Tryd.func8, Tryd.ntmps8
    go_wp2_with (go_at_call 9; refine (awake_any _ HR.out).mono ?_; rintro e w' ⟨rfl, hb⟩; have HB := Lib.hid hb; clear hb)
    go_ret
    exact ⟨rfl, HB.out⟩
  have d0 : decide ((64 : Int) < (n0 : Int)) = false := by simp; omega
  by_cases g1 : 500 < n1
  · have d1 : decide ((500 : Int) < (n1 : Int)) = true := by simp; omega
    go_enter Tryd.func8, Tryd.ntmps8
    go_wp2_with (go_at_call 9; refine (awake_any _ HR.out).mono ?_; rintro e w' ⟨rfl, hb⟩; have HB := Lib.hid hb; clear hb)
    go_ret
    exact ⟨rfl, HB.out⟩
  have d1 : decide ((500 : Int) < (n1 : Int)) = false := by simp; omega
  have hmk := make64
  go_enter Tryd.func8, Tryd.ntmps8
  go_wp2_with (go_at_call 9; refine (awake_any _ HR.out).mono ?_; rintro e w1 ⟨rfl, hb⟩; have HB := Lib.hid hb; clear hb)
  have k1 := (Whole.new w1 5 (nums (zs 64)).toArray).alloc (.cells (nums (zs 64)).toArray 5)
  have k2 := Whole.new (w1.alloc (.cells (nums (zs 64)).toArray 5)) 5 (nums (zs 64)).toArray
  have b2 : Below w.heap.size w ((w1.alloc (.cells (nums (zs 64)).toArray 5)).alloc (.cells (nums (zs 64)).toArray 5)) := (HB.out.alloc HB.out.size _).alloc (by have := HB.out.size; simp; omega) _
  rw [size_alloc] at k2
  have s1 := HB.out.size
  generalize (w1.alloc (.cells (nums (zs 64)).toArray 5)).alloc (.cells (nums (zs 64)).toArray 5) = w2 at *
  generalize w1.heap.size = P at *
  generalize hBe : w.heap.size = B at *
  have HBE := Lib.hid hBe
  have HW := Lib.hid (And.intro k1 (And.intro k2 b2))
  clear k1 k2 b2 hBe hmk HB
  go_loopw [8] (fun i wr => ∃ k : Nat, k ≤ 64 ∧ i = .int .i64 k ∧ Hid (Whole wr P 5 (nums (half 54 l0 k)).toArray ∧ Whole wr (P + 1) 5 (nums (half 92 l0 k)).toArray ∧ Below B w wr)) (fun i _ => 64 - (intOf i).toNat)
  case atStart => exact ⟨0, Nat.zero_le _, rfl, HW⟩
  case round =>
    clear HW
    obtain ⟨k, hk, rfl, HB⟩ := hrel
    by_cases hlt : k < 64
    · have hd : decide ((k : Int) < 64) = true := by simp; omega
      have q0 : (k : Int) < 64 := by omega
      obtain ⟨x, hx⟩ : ∃ x, (Sm.kb l0).getD k 0 = x := ⟨_, rfl⟩
      have hxb := byt_getD (byt_kb H0.out.2.2.1) k
      rw [hx] at hxb
      have hv1 : bits .xor .u8 x 54 = ((x.toNat ^^^ (54 : Int).toNat : Nat) : Int) := u8_xor _ _ (by omega) (by omega) (by omega) (by omega)
      have hv2 : bits .xor .u8 x 92 = ((x.toNat ^^^ (92 : Int).toNat : Nat) : Int) := u8_xor _ _ (by omega) (by omega) (by omega) (by omega)
      have S1 := Lib.hid (half_set 54 l0 k hlt x hx)
      have S2 := Lib.hid (half_set 92 l0 k hlt x hx)
      generalize ((x.toNat ^^^ (54 : Int).toNat : Nat) : Int) = y1 at *
      generalize ((x.toNat ^^^ (92 : Int).toNat : Nat) : Int) = y2 at *
      have e1 : wr.cell? ⟨P, k, none⟩ = some (.int .u8 ((half 54 l0 k).getD k 0)) := (HB.out.1.cell _).trans (by rw [List.getElem?_toArray, nums_get _ _ (by rw [half_len _ _ _ hk]; exact hlt)])
      have e2 : wr.cell? ⟨P + 1, k, none⟩ = some (.int .u8 ((half 92 l0 k).getD k 0)) := (HB.out.2.1.cell _).trans (by rw [List.getElem?_toArray, nums_get _ _ (by rw [half_len _ _ _ hk]; exact hlt)])
      have f1 : wr.frozen? ⟨P, k, none⟩ = false := HB.out.1.frozen _
      have f2 : wr.frozen? ⟨P + 1, k, none⟩ = false := HB.out.2.1.frozen _
      with_reducible generalize (half 54 l0 k).getD k 0 = z1 at *
      with_reducible generalize (half 92 l0 k).getD k 0 = z2 at *
      have HXX := Lib.hid hx
      clear hx
      have R : Hid (∀ v, v = (wr.setCell ⟨P, k, none⟩ (.int .u8 y1)).setCell ⟨P + 1, k, none⟩ (.int .u8 y2) → Whole v P 5 (nums (half 54 l0 (k + 1))).toArray ∧ Whole v (P + 1) 5 (nums (half 92 l0 (k + 1))).toArray ∧ Below B w v) := Lib.hid (by
        rintro v rfl
        refine ⟨?_, ?_, (HB.out.2.2.setCell (by show B ≤ P; omega) _).setCell (by show B ≤ P + 1; omega) _⟩
        · rw [← S1.out]; exact (HB.out.1.set k _).far (by show P ≠ P + 1; omega) _
        · rw [← S2.out]; exact (HB.out.2.1.far (by show P + 1 ≠ P; omega) _).set k _)
      by_cases hk0 : k < n0
      · have hd2 : decide ((k : Int) < (n0 : Int)) = true := by simp; omega
        obtain ⟨b, off, rfl, _, hlt2, hc⟩ := (H0.out.below HB.out.2.2 (fun b _ h => h)).cell hk0
        have hx2 : l0.getD k 0 = x := by
          have := HXX.out
          rw [kb_get l0 k (by rw [H0.out.1]; omega), if_pos (by rw [H0.out.1]; exact hk0)] at this
          exact this
        rw [hx2] at hc
        clear hx2
        go_wp2
        go_roundw
        case rel => exact ⟨k + 1, by omega, by go_num, Lib.hid (R.out _ rfl)⟩
        case measure => simp [intOf]; omega
      · have hd2 : decide ((k : Int) < (n0 : Int)) = false := by simp; omega
        have hx0 : x = 0 := by
          have := HXX.out
          rw [kb_get l0 k (by rw [H0.out.1]; omega), if_neg (by rw [H0.out.1]; exact hk0)] at this
          exact this.symm
        rw [hx0] at hv1 hv2
        go_wp2
        go_roundw
        case rel => exact ⟨k + 1, by omega, by go_num, Lib.hid (R.out _ rfl)⟩
        case measure => simp [intOf]; omega
    · have hd : decide ((k : Int) < 64) = false := by simp; omega
      have hk8 : k = 64 := by omega
      have hh : ∀ y, half y l0 k = Sm.chg y (Sm.kb l0) := fun y => by rw [hk8]; unfold half; rw [List.take_of_length_le (by rw [chg_len, kb_len]; omega)]; simp [zs]
      have K0 := HB.out
      rw [hh, hh] at K0
      have HK0 := Lib.hid K0
      have HBK := Lib.hid (byt_kb H0.out.2.2.1)
      have HK8 := Lib.hid hk8
      clear K0 HB hh hk8
      have HC : Hid (Sm.code l0 l1 = Sm.dig (Sm.chg 92 (Sm.kb l0) ++ Sm.dig (Sm.chg 54 (Sm.kb l0) ++ l1))) := Lib.hid rfl
      have HL : Hid ((Sm.kb l0).length = 64) := Lib.hid (kb_len l0)
      have HN : Hid (l0.length = n0 ∧ l1.length = n1) := Lib.hid ⟨H0.out.1, H1.out.1⟩
      have sr : P + 1 < wr.heap.size := HK0.out.2.1.lt
      go_wp2_with fail
      have q3 := Whole.new wr 22 #[.slice (some ⟨P, 0, none⟩) 64 64, .slice a1 n1 c1]
      have k3 := HK0.out.1.alloc (.cells #[.slice (some ⟨P, 0, none⟩) 64 64, .slice a1 n1 c1] 22)
      have l3 := HK0.out.2.1.alloc (.cells #[.slice (some ⟨P, 0, none⟩) 64 64, .slice a1 n1 c1] 22)
      have b3 := HK0.out.2.2.alloc (by omega) (.cells #[.slice (some ⟨P, 0, none⟩) 64 64, .slice a1 n1 c1] 22)
      generalize wr.alloc (.cells #[.slice (some ⟨P, 0, none⟩) 64 64, .slice a1 n1 c1] 22) = w3 at *
      generalize wr.heap.size = G at *
      have t3 := txt_of_whole (fun _ => True) trivial k3 (byt_chg (y := 54) (by omega) HBK.out) 64 64 (by rw [chg_len, HL.out]; omega) (by omega)
      rw [List.take_of_length_le (by rw [chg_len, HL.out]; omega)] at t3
      have hp := parts_two (S := fun _ => True) q3 trivial t3 ((H1.out.below b3 (fun b _ h => h)).weak (fun _ _ _ => trivial))
      refine (sum_any hp (HR.out.below b3 (by omega)) (by simp [chg_len, HL.out, HN.out.2]; omega) (by omega)).mono ?_
      rintro e w4 ⟨rfl, hb4⟩
      rw [show [Sm.chg 54 (Sm.kb l0), l1].flatten = Sm.chg 54 (Sm.kb l0) ++ l1 by simp]
      have H4 := Lib.hid (And.intro (l3.below hb4 l3.lt) (b3.trans (hb4.mono (by have := q3.lt; omega))))
      clear q3 k3 l3 b3 t3 hp hb4 HK0
      have HDI := Lib.hid (dig_ok (Sm.chg 54 (Sm.kb l0) ++ l1))
      have HDR := Lib.hid (dig_ok (Sm.chg 92 (Sm.kb l0) ++ Sm.dig (Sm.chg 54 (Sm.kb l0) ++ l1)))
      with_reducible generalize Sm.dig (Sm.chg 54 (Sm.kb l0) ++ l1) = inner at *
      have s4 : P + 1 < w4.heap.size := H4.out.1.lt
      have hNa := all_nums inner
      have HNS := Lib.hid (row_size HDI.out)
      go_wp2_with (first
        | ((with_reducible show wpList _ _ _ ((⟨_, Op.store 24 _ _, _, _, _, _⟩ : Oper) :: _) _ _); refine wpList_store_row rfl _ (.tmp 10) (.tmp 48) rfl w4.heap.size _ rfl rfl 24 _ (Whole.new _ _ _) (by rw [HNS.out]; exact info32) (by rw [HNS.out]; rfl) hNa ?_)
        | fail)
      rw [zero32z]
      have o5 : Whole ((w4.alloc (.cells (nums (zs 32)).toArray 24)).setRow w4.heap.size (nums inner).toArray) (P + 1) 5 (nums (Sm.chg 92 (Sm.kb l0))).toArray := put_far H4.out.1
      have i5 : Whole ((w4.alloc (.cells (nums (zs 32)).toArray 24)).setRow w4.heap.size (nums inner).toArray) w4.heap.size 24 (nums inner).toArray := put_row
      have b5 : Below B w ((w4.alloc (.cells (nums (zs 32)).toArray 24)).setRow w4.heap.size (nums inner).toArray) := put_below H4.out.2 (by omega)
      generalize (w4.alloc (.cells (nums (zs 32)).toArray 24)).setRow w4.heap.size (nums inner).toArray = w5 at *
      generalize w4.heap.size = I at *
      have o6 : Whole w5.drew (P + 1) 5 (nums (Sm.chg 92 (Sm.kb l0))).toArray := o5
      have i6 : Whole w5.drew I 24 (nums inner).toArray := i5
      have b6 : Below B w w5.drew := b5.drew
      refine wp_region_held_drew (S := fun _ => True) (by kernel_rfl) trivial (fun hHeld => ?_)
      generalize w5.drew = v0 at *
      have V0 := Lib.hid (And.intro o6 (And.intro i6 b6))
      clear o5 i5 b5 o6 i6 b6 H4 hNa
      have RES : Hid (Sm.code l0 l1 = Sm.dig (Sm.chg 92 (Sm.kb l0) ++ inner)) := HC
      clear HC
      have hq : ∀ w : World, (Op.equalIn 10000 24 (.agg (nums (Sm.dig (Sm.chg 92 (Sm.kb l0) ++ inner))).toArray) (.agg (nums (Sm.dig (Sm.chg 92 (Sm.kb l0) ++ inner))).toArray)).run Tryd.prog w = .ok true w := fun w => by
        have h := equal32 9999 (fun a b w => run_equalIn_int w 9998 5 .u8 .u8 a b Tryd.underlying5) (Sm.dig (Sm.chg 92 (Sm.kb l0) ++ inner)) (Sm.dig (Sm.chg 92 (Sm.kb l0) ++ inner)) HDR.out.1 HDR.out.1 w
        rw [h, decide_eq_true rfl]
      have FL : Hid ([Sm.chg 92 (Sm.kb l0), inner].flatten = Sm.chg 92 (Sm.kb l0) ++ inner) := Lib.hid (by simp)
      obtain ⟨res, hres⟩ : ∃ res, Sm.dig (Sm.chg 92 (Sm.kb l0) ++ inner) = res := ⟨_, rfl⟩
      rw [hres] at hq RES
      have HRS := Lib.hid hres
      clear hres
      refine wpAnyH_take (i := 0) (v := .bool true) rfl (by kernel_rfl) (by kernel_rfl) (by kernel_rfl) (fun _ _ _ h => h) (Or.inl ⟨by rfl, (by intro w hSw; (try dsimp only at hSw); go_simp)⟩) (by assumption) ?_
      try simp only [Act.put, List.getElem_toArray, List.getElem_cons_zero, List.getElem_cons_succ, List.setIfInBounds_toArray, List.set_cons_zero, List.set_cons_succ]
      refine wpAnyH_take (i := 1) (v := .bool true) rfl (by kernel_rfl) (by kernel_rfl) (by kernel_rfl) (fun _ _ _ h => h) (Or.inl ⟨by rfl, (by intro w hSw; (try dsimp only at hSw); go_simp)⟩) (by assumption) ?_
      try simp only [Act.put, List.getElem_toArray, List.getElem_cons_zero, List.getElem_cons_succ, List.setIfInBounds_toArray, List.set_cons_zero, List.set_cons_succ]
      refine wpAnyH_take (i := 2) (v := .slice a0 n0 c0) rfl (by kernel_rfl) (by kernel_rfl) (by kernel_rfl) (fun _ _ _ h => h) (Or.inl ⟨by rfl, (by intro w hSw; (try dsimp only at hSw); go_simp)⟩) (by assumption) ?_
      try simp only [Act.put, List.getElem_toArray, List.getElem_cons_zero, List.getElem_cons_succ, List.setIfInBounds_toArray, List.set_cons_zero, List.set_cons_succ]
      refine wpAnyH_take (i := 3) (v := .slice a1 n1 c1) rfl (by kernel_rfl) (by kernel_rfl) (by kernel_rfl) (fun _ _ _ h => h) (Or.inl ⟨by rfl, (by intro w hSw; (try dsimp only at hSw); go_simp)⟩) (by assumption) ?_
      try simp only [Act.put, List.getElem_toArray, List.getElem_cons_zero, List.getElem_cons_succ, List.setIfInBounds_toArray, List.set_cons_zero, List.set_cons_succ]
      refine wpAnyH_take (i := 5) (v := .slice (some ⟨P + 1, 0, none⟩) 64 64) rfl (by kernel_rfl) (by kernel_rfl) (by kernel_rfl) (fun _ _ _ h => h) (Or.inl ⟨by rfl, (by intro w hSw; (try dsimp only at hSw); go_simp)⟩) (by assumption) ?_
      try simp only [Act.put, List.getElem_toArray, List.getElem_cons_zero, List.getElem_cons_succ, List.setIfInBounds_toArray, List.set_cons_zero, List.set_cons_succ]
      refine wpAnyH_take (i := 6) (v := .slice (some ⟨I, 0, none⟩) 32 32) rfl (by kernel_rfl) (by kernel_rfl) (by kernel_rfl) (fun _ _ _ h => h) (Or.inl ⟨by rfl, (by intro w hSw; (try dsimp only at hSw); go_simp)⟩) (by assumption) ?_
      try simp only [Act.put, List.getElem_toArray, List.getElem_cons_zero, List.getElem_cons_succ, List.setIfInBounds_toArray, List.set_cons_zero, List.set_cons_succ]
      refine wpAnyH_ready (rs := [4, 7]) (by kernel_rfl) (by simp) (AllReadyH.cons rfl (fun K hK => ?_) (AllReadyH.cons rfl (fun K hK => ?_) AllReadyH.nil))
      · try simp only [List.getElem_toArray, List.getElem_cons_zero, List.getElem_cons_succ]
        go_simp
        go_at_call 12
        refine (code_any (H0.out.below V0.out.2.2 (fun b _ h => h)) (H1.out.below V0.out.2.2 (fun b _ h => h)) (HR.out.below V0.out.2.2 (by omega)) (by omega) (by omega)).mono ?_
        rintro e v1 ⟨rfl, hb⟩
        rw [RES.out]
        have V1 := Lib.hid (And.intro (V0.out.1.below hb V0.out.1.lt) (And.intro (V0.out.2.1.below hb V0.out.2.1.lt) (V0.out.2.2.trans (hb.mono (by have := V0.out.1.lt; omega)))))
        clear hb V0
        go_wp2_with fail
        refine hK.out _ _ trivial (fun hHeld => ?_)
        clear hK K
        try simp only [Act.put, List.getElem_toArray, List.getElem_cons_zero, List.getElem_cons_succ, List.setIfInBounds_toArray, List.set_cons_zero, List.set_cons_succ]
        refine wpAnyH_ready (rs := [7]) (by kernel_rfl) (by simp) (AllReadyH.cons rfl (fun K hK => ?_) AllReadyH.nil)
        try simp only [List.getElem_toArray, List.getElem_cons_zero, List.getElem_cons_succ]
        go_simp
        refine hK.out _ _ trivial (fun hHeld => ?_)
        clear hK K
        try simp only [Act.put, List.getElem_toArray, List.getElem_cons_zero, List.getElem_cons_succ, List.setIfInBounds_toArray, List.set_cons_zero, List.set_cons_succ]
        have q := Whole.new v1 22 #[.slice (some ⟨P + 1, 0, none⟩) 64 64, .slice (some ⟨I, 0, none⟩) 32 32]
        have V2 := Lib.hid (And.intro (V1.out.1.alloc (.cells #[.slice (some ⟨P + 1, 0, none⟩) 64 64, .slice (some ⟨I, 0, none⟩) 32 32] 22)) (And.intro (V1.out.2.1.alloc (.cells #[.slice (some ⟨P + 1, 0, none⟩) 64 64, .slice (some ⟨I, 0, none⟩) 32 32] 22)) (V1.out.2.2.alloc (by have := V1.out.1.lt; omega) (.cells #[.slice (some ⟨P + 1, 0, none⟩) 64 64, .slice (some ⟨I, 0, none⟩) 32 32] 22))))
        generalize v1.alloc (.cells #[.slice (some ⟨P + 1, 0, none⟩) 64 64, .slice (some ⟨I, 0, none⟩) 32 32] 22) = v2 at *
        generalize v1.heap.size = F at *
        have HQ := Lib.hid q
        clear q V1
        refine wpAnyH_ready (rs := [8]) (by kernel_rfl) (by simp) (AllReadyH.cons rfl (fun K hK => ?_) AllReadyH.nil)
        try simp only [List.getElem_toArray, List.getElem_cons_zero, List.getElem_cons_succ]
        go_simp
        go_at_call 10
        have t1 := txt_of_whole (fun _ => True) trivial V2.out.1 (byt_chg (y := 92) (by omega) HBK.out) 64 64 (by rw [chg_len, HL.out]; omega) (by omega)
        rw [List.take_of_length_le (by rw [chg_len, HL.out]; omega)] at t1
        refine (sum_any (parts_two (S := fun _ => True) HQ.out trivial t1 (txt_dig V2.out.2.1 HDI.out)) (HR.out.below V2.out.2.2 (by omega)) (by rw [FL.out]; simp [chg_len, HL.out, HDI.out.1]) (by omega)).mono ?_
        rintro e v3 ⟨rfl, hb⟩
        rw [FL.out, HRS.out]
        have V3 : Hid (Below B w v3) := Lib.hid (V2.out.2.2.trans (hb.mono (by have := V2.out.1.lt; omega)))
        clear hb t1
        go_wp2_with fail
        refine hK.out _ _ trivial (fun hHeld => ?_)
        clear hK K
        try simp only [Act.put, List.getElem_toArray, List.getElem_cons_zero, List.getElem_cons_succ, List.setIfInBounds_toArray, List.set_cons_zero, List.set_cons_succ]
        refine wpAnyH_take (i := 9) (v := .bool true) rfl (by kernel_rfl) (by kernel_rfl) (by kernel_rfl) (fun _ _ _ h => h) (Or.inl ⟨by rfl, (by intro w hSw; (try dsimp only at hSw); go_simp)⟩) (by assumption) ?_
        try simp only [Act.put, List.getElem_toArray, List.getElem_cons_zero, List.getElem_cons_succ, List.setIfInBounds_toArray, List.set_cons_zero, List.set_cons_succ]
        refine wpAnyH_take (i := 10) (v := .bool true) rfl (by kernel_rfl) (by kernel_rfl) (by kernel_rfl) (fun _ _ _ h => h) (Or.inl ⟨by rfl, (by intro w hSw; (try dsimp only at hSw); go_simp)⟩) (by assumption) ?_
        try simp only [Act.put, List.getElem_toArray, List.getElem_cons_zero, List.getElem_cons_succ, List.setIfInBounds_toArray, List.set_cons_zero, List.set_cons_succ]
        refine wpAnyH_take (i := 11) (v := .bool true) rfl (by kernel_rfl) (by kernel_rfl) (by kernel_rfl) (fun _ _ _ h => h) (Or.inl ⟨by rfl, (by intro w hSw; (try dsimp only at hSw); go_simp)⟩) (by assumption) ?_
        try simp only [Act.put, List.getElem_toArray, List.getElem_cons_zero, List.getElem_cons_succ, List.setIfInBounds_toArray, List.set_cons_zero, List.set_cons_succ]
        refine wpAnyH_done (by kernel_rfl) ?_ _
        go_wp2
        go_ret
        exact ⟨rfl, by rw [HBE.out]; exact V3.out⟩
      · try simp only [List.getElem_toArray, List.getElem_cons_zero, List.getElem_cons_succ]
        go_simp
        refine hK.out _ _ trivial (fun hHeld => ?_)
        clear hK K
        try simp only [Act.put, List.getElem_toArray, List.getElem_cons_zero, List.getElem_cons_succ, List.setIfInBounds_toArray, List.set_cons_zero, List.set_cons_succ]
        have q := Whole.new v0 22 #[.slice (some ⟨P + 1, 0, none⟩) 64 64, .slice (some ⟨I, 0, none⟩) 32 32]
        have V1 := Lib.hid (And.intro (V0.out.1.alloc (.cells #[.slice (some ⟨P + 1, 0, none⟩) 64 64, .slice (some ⟨I, 0, none⟩) 32 32] 22)) (And.intro (V0.out.2.1.alloc (.cells #[.slice (some ⟨P + 1, 0, none⟩) 64 64, .slice (some ⟨I, 0, none⟩) 32 32] 22)) (V0.out.2.2.alloc (by have := V0.out.1.lt; omega) (.cells #[.slice (some ⟨P + 1, 0, none⟩) 64 64, .slice (some ⟨I, 0, none⟩) 32 32] 22))))
        generalize v0.alloc (.cells #[.slice (some ⟨P + 1, 0, none⟩) 64 64, .slice (some ⟨I, 0, none⟩) 32 32] 22) = v1 at *
        generalize v0.heap.size = F at *
        have HQ := Lib.hid q
        clear q V0
        refine wpAnyH_ready (rs := [4]) (by kernel_rfl) (by simp) (AllReadyH.cons rfl (fun K hK => ?_) AllReadyH.nil)
        try simp only [List.getElem_toArray, List.getElem_cons_zero, List.getElem_cons_succ]
        go_simp
        go_at_call 12
        refine (code_any (H0.out.below V1.out.2.2 (fun b _ h => h)) (H1.out.below V1.out.2.2 (fun b _ h => h)) (HR.out.below V1.out.2.2 (by omega)) (by omega) (by omega)).mono ?_
        rintro e v2 ⟨rfl, hb⟩
        rw [RES.out]
        have V2 := Lib.hid (And.intro (V1.out.1.below hb V1.out.1.lt) (And.intro (V1.out.2.1.below hb V1.out.2.1.lt) (V1.out.2.2.trans (hb.mono (by have := V1.out.1.lt; omega)))))
        have HQ2 := Lib.hid (HQ.out.below hb HQ.out.lt)
        clear hb V1 HQ
        go_wp2_with fail
        refine hK.out _ _ trivial (fun hHeld => ?_)
        clear hK K
        try simp only [Act.put, List.getElem_toArray, List.getElem_cons_zero, List.getElem_cons_succ, List.setIfInBounds_toArray, List.set_cons_zero, List.set_cons_succ]
        refine wpAnyH_ready (rs := [8]) (by kernel_rfl) (by simp) (AllReadyH.cons rfl (fun K hK => ?_) AllReadyH.nil)
        try simp only [List.getElem_toArray, List.getElem_cons_zero, List.getElem_cons_succ]
        go_simp
        go_at_call 10
        have t1 := txt_of_whole (fun _ => True) trivial V2.out.1 (byt_chg (y := 92) (by omega) HBK.out) 64 64 (by rw [chg_len, HL.out]; omega) (by omega)
        rw [List.take_of_length_le (by rw [chg_len, HL.out]; omega)] at t1
        refine (sum_any (parts_two (S := fun _ => True) HQ2.out trivial t1 (txt_dig V2.out.2.1 HDI.out)) (HR.out.below V2.out.2.2 (by omega)) (by rw [FL.out]; simp [chg_len, HL.out, HDI.out.1]) (by omega)).mono ?_
        rintro e v3 ⟨rfl, hb⟩
        rw [FL.out, HRS.out]
        have V3 : Hid (Below B w v3) := Lib.hid (V2.out.2.2.trans (hb.mono (by have := V2.out.1.lt; omega)))
        clear hb t1
        go_wp2_with fail
        refine hK.out _ _ trivial (fun hHeld => ?_)
        clear hK K
        try simp only [Act.put, List.getElem_toArray, List.getElem_cons_zero, List.getElem_cons_succ, List.setIfInBounds_toArray, List.set_cons_zero, List.set_cons_succ]
        refine wpAnyH_take (i := 9) (v := .bool true) rfl (by kernel_rfl) (by kernel_rfl) (by kernel_rfl) (fun _ _ _ h => h) (Or.inl ⟨by rfl, (by intro w hSw; (try dsimp only at hSw); go_simp)⟩) (by assumption) ?_
        try simp only [Act.put, List.getElem_toArray, List.getElem_cons_zero, List.getElem_cons_succ, List.setIfInBounds_toArray, List.set_cons_zero, List.set_cons_succ]
        refine wpAnyH_take (i := 10) (v := .bool true) rfl (by kernel_rfl) (by kernel_rfl) (by kernel_rfl) (fun _ _ _ h => h) (Or.inl ⟨by rfl, (by intro w hSw; (try dsimp only at hSw); go_simp)⟩) (by assumption) ?_
        try simp only [Act.put, List.getElem_toArray, List.getElem_cons_zero, List.getElem_cons_succ, List.setIfInBounds_toArray, List.set_cons_zero, List.set_cons_succ]
        refine wpAnyH_take (i := 11) (v := .bool true) rfl (by kernel_rfl) (by kernel_rfl) (by kernel_rfl) (fun _ _ _ h => h) (Or.inl ⟨by rfl, (by intro w hSw; (try dsimp only at hSw); go_simp)⟩) (by assumption) ?_
        try simp only [Act.put, List.getElem_toArray, List.getElem_cons_zero, List.getElem_cons_succ, List.setIfInBounds_toArray, List.set_cons_zero, List.set_cons_succ]
        refine wpAnyH_done (by kernel_rfl) ?_ _
        go_wp2
        go_ret
        exact ⟨rfl, by rw [HBE.out]; exact V3.out⟩
end Go.Proofs.YtndiojiphoomgaaDoor
