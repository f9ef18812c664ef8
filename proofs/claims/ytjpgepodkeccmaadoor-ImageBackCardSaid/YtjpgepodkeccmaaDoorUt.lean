/-
  The walk of ImageBack: what is put is got back, and nothing beside it changes.
-/
import Derived.Test.YtjpgepodkeccmaaDoorUr
namespace Go.Proofs.YtjpgepodkeccmaaDoor
open Go.RowKit
set_option linter.unusedVariables false
set_option linter.unusedSimpArgs false
set_option maxRecDepth 20000
theorem byt_all {x : Int} (hx : 0 ≤ x ∧ x < 256) : Byt (all x) := fun y hy => by
  obtain ⟨_, rfl⟩ := List.mem_replicate.1 hy
  exact hx
theorem now_all {A : Dm.A} {n : Nat} {x : Int} (h : Dm.Ok A n) (hr : ∀ m, m < n → Dm.read A m = all x) : Dm.now A = List.replicate (64 * n) x := by
  obtain ⟨h1, h2, h3⟩ := Dm.now_get h
  apply List.ext_getElem?
  intro i
  rw [List.getElem?_replicate]
  by_cases e : i < 64 * n
  · rw [if_pos e]
    have hm := (h3 (i / 64)).trans (hr (i / 64) (by omega))
    have := congrArg (·[i % 64]?) hm
    unfold Dm.blk all at this
    simp only [List.getElem?_take, List.getElem?_drop, List.getElem?_replicate, if_pos (Nat.mod_lt i (show 64 > 0 by omega))] at this
    rw [show 64 * (i / 64) + i % 64 = i by omega] at this
    exact this
  · rw [if_neg e, List.getElem?_eq_none (by omega)]
theorem area_all {C : List Int} {n : Nat} (h : C.length = n) : area C 0 n = C := by
  unfold area
  rw [Nat.mul_zero, List.drop_zero, ← h, List.take_length]
theorem put_at_in {C b : List Int} {o j : Nat} (h : o + b.length ≤ C.length) (hj : j < b.length) : (Dm.put C o b).getD (o + j) 0 = b.getD j 0 := by
  rw [List.getD_eq_getElem?_getD, List.getD_eq_getElem?_getD, Dm.put_get h, if_pos (by omega), show o + j - o = j by omega]
theorem put_at_out {b : List Int} {n o i : Nat} {x : Int} (h : o + b.length ≤ n) (hi : i < n) (ho : ¬ (o ≤ i ∧ i < o + b.length)) : (Dm.put (List.replicate n x) o b).getD i 0 = x := by
  rw [List.getD_eq_getElem?_getD, Dm.put_get (by simp; exact h), if_neg ho, List.getElem?_replicate, if_pos hi]
  rfl
set_option maxHeartbeats 16000000 in
theorem back_walk (fr0 rm0 pl0 x0 : Int) (a0 : Option Addr) (len cap : Nat) (l : List Int) (w : World) (hR : Sh.Roots w) (hf : 0 ≤ fr0 ∧ fr0 < 256) (hrm : 0 ≤ rm0 ∧ rm0 < 256) (hpl : 0 ≤ pl0 ∧ pl0 < 65536) (hx : 0 ≤ x0 ∧ x0 < 256) (ht : Txt w (· < w.heap.size) a0 len cap l) :
    Calls Tryd.prog 5 #[.int .u8 fr0, .int .u8 rm0, .int .u16 pl0, .int .u8 x0, .slice a0 len cap] w fun e w' => e = .returned (.bool true) ∧ Below w.heap.size w w' := by
  obtain ⟨f0, rfl⟩ := Int.eq_ofNat_of_zero_le hf.1
  obtain ⟨r0, rfl⟩ := Int.eq_ofNat_of_zero_le hrm.1
  obtain ⟨p0, rfl⟩ := Int.eq_ofNat_of_zero_le hpl.1
  have HA := Lib.hid (awake_any hR)
  have HT := Lib.hid ht
  clear hR ht
  go_enter Tryd.func5, Tryd.ntmps5
  go_wp2_with fail
  refine HA.out.mono ?_
  rintro e w1 ⟨rfl, hb1⟩
  have H1 := Lib.hid hb1
  clear hb1 HA
  go_wp2_with fail
  refine (new_ok (n := 20) (by omega)).mono ?_
  rintro e w2 ⟨p, bb, mb, rfl, hd, hp, hbb, hmb, hb2⟩
  have HP : Hid ((w.heap.size ≤ p ∧ w.heap.size ≤ bb ∧ w.heap.size ≤ mb) ∧ (∀ x, x < w.heap.size → x ≠ p ∧ x ≠ bb ∧ x ≠ mb)) := Lib.hid (by have := H1.out.size; exact ⟨⟨by omega, by omega, by omega⟩, fun x hx => ⟨by omega, by omega, by omega⟩⟩)
  have H2 : Hid (Dk w2 p bb mb (fresh 20) 20 ∧ Below w.heap.size w w2) := Lib.hid ⟨hd, H1.out.trans (hb2.mono H1.out.size)⟩
  clear hd hp hbb hmb hb2 H1
  by_cases g1 : 700 < len
  · have d1 : decide ((700 : Int) < (len : Int)) = true := by simp; omega
    go_wp2
    go_ret
    exact ⟨rfl, H2.out.2⟩
  have d1 : decide ((700 : Int) < (len : Int)) = false := by simp; omega
  obtain ⟨a, ha⟩ : ∃ a, f0 % 10 = a := ⟨_, rfl⟩
  have ha9 : a ≤ 9 := by omega
  have e1 : (f0 : Int).tmod 10 = (a : Int) := by rw [Int.tmod_eq_emod_of_nonneg (by omega), ← ha]; rfl
  obtain ⟨k, hk⟩ : ∃ k, r0 % 11 = k := ⟨_, rfl⟩
  have hk10 : k ≤ 10 := by omega
  have e2 : (r0 : Int).tmod 11 = (k : Int) := by rw [Int.tmod_eq_emod_of_nonneg (by omega), ← hk]; rfl
  obtain ⟨o, ho⟩ : ∃ o, p0 % 640 = o := ⟨_, rfl⟩
  have ho6 : o ≤ 639 := by omega
  have e3 : (p0 : Int).tmod 640 = (o : Int) := by rw [Int.tmod_eq_emod_of_nonneg (by omega), ← ho]; rfl
  have HX := Lib.hid hx
  clear ha hk ho hx
  go_wp2_with fail
  clear e1 e2 e3 hf hrm hpl d1
  go_loopw [17] (fun v wr => ∃ j : Nat, j ≤ 20 ∧ v = .int .i64 (j : Int) ∧ Hid (∃ A, Dk wr p bb mb A 20 ∧ A.down = false ∧ (∀ m, m < j → Dm.read A m = all x0) ∧ Below w.heap.size w wr)) (fun v _ => 20 - (intOf v).toNat)
  case atStart => exact ⟨0, by omega, rfl, Lib.hid ⟨_, H2.out.1, rfl, fun m hm => absurd hm (by omega), H2.out.2⟩⟩
  case round =>
    obtain ⟨j, hj, rfl, HB⟩ := hrel
    clear H2
    by_cases hlt : j < 20
    · have q1 : (j : Int) < 20 := by omega
      go_wp2_with fail
      refine all_any.mono ?_
      rintro e w3 ⟨rfl, hb3⟩
      obtain ⟨A, HA⟩ : ∃ A, Hid (Dk w3 p bb mb A 20 ∧ A.down = false ∧ (∀ m, m < j → Dm.read A m = all x0) ∧ Below w.heap.size w w3) := by
        obtain ⟨A, h1, h2, h3, h4⟩ := HB.out
        exact ⟨A, Lib.hid ⟨h1.old hb3, h2, h3, h4.trans (hb3.mono h4.size)⟩⟩
      clear HB hb3
      go_wp2_with fail
      refine (write_at HA.out.1 HA.out.2.1 (by omega) (by omega) (all_len x0) (byt_all HX.out)).mono ?_
      rintro e w4 ⟨rfl, hd4, ho4⟩
      have HN : Hid (∃ A, Dk w4 p bb mb A 20 ∧ A.down = false ∧ (∀ m, m < j + 1 → Dm.read A m = all x0) ∧ Below w.heap.size w w4) := Lib.hid ⟨_, hd4, HA.out.2.1, fun m hm => by
        rw [Int.toNat_natCast, Dm.read_write]
        by_cases e : j = m
        · rw [if_pos e]
        · rw [if_neg e]; exact HA.out.2.2.1 m (by omega), ho4.aft HA.out.2.2.2 (by have := HP.out.1; intro x hx; simp at hx; omega)⟩
      clear hd4 ho4
      go_wp2
      go_roundw
      case rel => exact ⟨j + 1, by omega, by go_num, HN⟩
      case measure => simp [intOf]; omega
    · obtain rfl : j = 20 := by omega
      have q1 : ¬ ((20 : Int) < 20) := by omega
      obtain ⟨A, HA⟩ : ∃ A, Hid (Dk wr p bb mb A 20 ∧ A.down = false ∧ Dm.now A = List.replicate 1280 x0 ∧ Below w.heap.size w wr ∧ Txt wr (· < w.heap.size) a0 len cap l) := by
        obtain ⟨A, h1, h2, h3, h4⟩ := HB.out
        exact ⟨A, Lib.hid ⟨h1, h2, now_all h1.ok h3, h4, HT.out.below h4 (fun _ _ h => h)⟩⟩
      clear HB
      by_cases hfit : 64 * k < o + len
      · have q2 : decide ((64 : Int) * (k : Int) < (o : Int) + (len : Int)) = true := by simp; omega
        have hfb : fitsB 20 (a : Int) (k : Int) (o : Int) (len : Int) = false := by
          unfold fitsB; simp; omega
        go_wp2_with fail
        refine (put_arg HA.out.1 ⟨by omega, by omega⟩ ⟨by omega, by omega⟩ (by omega) hfb).mono ?_
        rintro e w5 ⟨rfl, rfl⟩
        go_wp2
        go_ret
        exact ⟨rfl, HA.out.2.2.2.1⟩
      · have q2 : decide ((64 : Int) * (k : Int) < (o : Int) + (len : Int)) = false := by simp; omega
        go_wp2_with fail
        refine (put_ok (fr := a) (room := k) (at_ := o) HA.out.1 HA.out.2.1 (by omega) (by omega) HA.out.2.2.2.2 HP.out.2).mono ?_
        rintro e w5 ⟨rfl, A5, hd5, hw5, hn5, ho5⟩
        rw [HA.out.2.2.1] at hn5
        have hl := HT.out.1
        have h5 : Hid (Dk w5 p bb mb A5 20 ∧ A5.down = false ∧ Dm.now A5 = Dm.put (List.replicate 1280 x0) (64 * a + o) l ∧ Below w.heap.size w w5) := Lib.hid ⟨hd5, hw5, hn5, ho5.aft HA.out.2.2.2.1 (by have := HP.out.1; intro x hx; simp at hx; omega)⟩
        clear hd5 hw5 hn5 ho5 HA
        go_wp2_with fail
        refine (get_ok (fr := 0) (room := 20) (size := 1280) h5.out.1 h5.out.2.1 (by omega) (by omega)).mono ?_
        rintro e w6 ⟨g, rfl, hg, hgs, hb6⟩
        rw [h5.out.2.2.1, area_all (by rw [Dm.put_len (by simp; omega)]; simp)] at hg
        have hdif : ∀ i, i < 1280 → w6.cell? ⟨g, i, none⟩ = some (.int .u8 ((Dm.put (List.replicate 1280 x0) (64 * a + o) l).getD i 0)) := fun i hi => by
          rw [hg.cell, List.getElem?_toArray, nums_get _ _ (by rw [Dm.put_len (by simp; omega)]; simp; exact hi)]
        have H6 : Hid (Dk w6 p bb mb A5 20 ∧ Below w.heap.size w w6 ∧ (∀ i, i < 1280 → w6.cell? ⟨g, i, none⟩ = some (.int .u8 ((Dm.put (List.replicate 1280 x0) (64 * a + o) l).getD i 0))) ∧ Txt w6 (· < w.heap.size) a0 len cap l) := Lib.hid ⟨h5.out.1.old hb6, h5.out.2.2.2.trans (hb6.mono h5.out.2.2.2.size), hdif, HT.out.below (h5.out.2.2.2.trans (hb6.mono h5.out.2.2.2.size)) (fun _ _ h => h)⟩
        clear hg hgs hb6 hdif
        go_wp2_with fail
        clear q2
        go_loopw [21, 22] (fun v _ wr => ∃ i : Nat, i ≤ 1280 ∧ v = .int .i64 (i : Int) ∧ wr = w6) (fun v _ _ => 1280 - (intOf v).toNat)
        case atStart => exact ⟨0, by omega, rfl, rfl⟩
        case round =>
          obtain ⟨i, hi, rfl, rfl⟩ := hrel
          by_cases hlt : i < 1280
          · have q3 : (i : Int) < 1280 := by omega
            by_cases hin : 64 * a + o ≤ i ∧ i < 64 * a + o + len
            · obtain ⟨j, hij⟩ : ∃ j, i = 64 * a + o + j := ⟨i - (64 * a + o), by omega⟩
              have hj : j < len := by omega
              have hcg := H6.out.2.2.1 i hlt
              rw [show (Dm.put (List.replicate 1280 x0) (64 * a + o) l).getD i 0 = l.getD j 0 by rw [hij]; exact put_at_in (by simp; omega) (by omega)] at hcg
              obtain ⟨gb, off, rfl, _, _, hcl⟩ := H6.out.2.2.2.cell hj
              generalize l.getD j 0 = v at *
              have q4 : decide (64 * (a : Int) + (o : Int) ≤ (i : Int)) = true := by simp; omega
              have q5 : decide ((i : Int) < 64 * (a : Int) + (o : Int) + (len : Int)) = true := by simp; omega
              have e9 : (i : Int) - 64 * (a : Int) - (o : Int) = (j : Int) := by omega
              clear hin hij
              go_wp2
              go_roundw
              case rel => exact ⟨i + 1, by omega, by go_num, trivial⟩
              case measure => simp [intOf]; omega
            · have hcg := H6.out.2.2.1 i hlt
              rw [put_at_out (by omega) hlt (by rw [hl]; exact hin)] at hcg
              by_cases h1 : 64 * a + o ≤ i
              · have q4 : decide (64 * (a : Int) + (o : Int) ≤ (i : Int)) = true := by simp; omega
                have q5 : decide ((i : Int) < 64 * (a : Int) + (o : Int) + (len : Int)) = false := by simp; omega
                clear hin h1
                go_wp2
                go_roundw
                case rel => exact ⟨i + 1, by omega, by go_num, trivial⟩
                case measure => simp [intOf]; omega
              · have q4 : decide (64 * (a : Int) + (o : Int) ≤ (i : Int)) = false := by simp; omega
                clear hin h1
                go_wp2
                go_roundw
                case rel => exact ⟨i + 1, by omega, by go_num, trivial⟩
                case measure => simp [intOf]; omega
          · obtain rfl : i = 1280 := by omega
            have q3 : ¬ ((1280 : Int) < 1280) := by omega
            go_wp2_with fail
            rw [show (o : Int) + (len : Int) = ((o + len : Nat) : Int) by omega]
            rename_i w6
            refine (get_ok (fr := a) (room := k) (size := o + len) H6.out.1 h5.out.2.1 (by omega) (by omega)).mono ?_
            rintro e w7 ⟨g2, rfl, hg2, hgs2, hb7⟩
            have hsz : o + len ≤ (area (Dm.now A5) a (o + len)).length := by rw [area_len (Dm.now_get h5.out.1.ok).1 (by omega)]; omega
            have htk : Txt w7 (fun _ => True) (some ⟨g2, 0, none⟩) (o + len) (o + len) (area (Dm.now A5) a (o + len)) := by
              have := txt_of_whole (fun _ => True) trivial hg2 (area_byt (Dm.now_get h5.out.1.ok).2.1 a (o + len)) (o + len) (o + len) hsz (Nat.le_refl _)
              rw [List.take_of_length_le (by rw [area_len (Dm.now_get h5.out.1.ok).1 (by omega)]; omega)] at this
              exact this
            have hdr : (area (Dm.now A5) a (o + len)).drop o = l := by
              rw [h5.out.2.2.1, ← hl]
              exact area_put (n := 20) (by simp) (by omega)
            obtain ⟨a1, hs1, ht1⟩ : ∃ A, (∀ w, (Instr.slice 26 (.slice (some ⟨g2, 0, none⟩) (o + len) (o + len)) (some (.int .i64 (o : Int))) none none).run Tryd.prog w = .ok (.slice A len len) w) ∧ Txt w7 (fun _ => True) A len len l := by
              have h1 := Sh.slice_from (a := some ⟨g2, 0, none⟩) (m := o + len) (c := o + len) (j := o) (by omega)
              have h2 := htk.drop o (by omega)
              rw [show o + len - o = len by omega] at h1 h2
              rw [hdr] at h2
              exact ⟨_, h1, h2⟩
            have hb7' := H6.out.2.1.trans (hb7.mono H6.out.2.1.size)
            have ht2 := HT.out.below hb7' (fun _ _ h => h)
            obtain ⟨s, hs⟩ : ∃ s, strOfNums l = s := ⟨_, rfl⟩
            have hc1 : (convert 26 9 (.slice a1 len len)).run Tryd.prog w7.drew = .ok (.string s) w7.drew := by rw [← hs]; exact convert_txt (show Txt w7.drew _ a1 len len l from ht1)
            have hc2 : (convert 26 9 (.slice a0 len cap)).run Tryd.prog w7.drew = .ok (.string s) w7.drew := by rw [← hs]; exact convert_txt (show Txt w7.drew _ a0 len cap l from ht2)
            have HC := Lib.hid (And.intro hc1 hc2)
            have he : (s.toList == s.toList) = true := by simp
            have H7 := Lib.hid hb7'
            clear hg2 hgs2 hb7 hsz htk hdr ht1 hb7' ht2 hs hc1 hc2
            go_wp2_with fail
            have hb8 : Below w.heap.size w w7.drew := ⟨H7.out.os, H7.out.tape, H7.out.output, H7.out.size, H7.out.block⟩
            have hs0 := HC.out
            refine wp_region_held_drew (S := fun v => (convert 26 9 (.slice a1 len len)).run Tryd.prog v = .ok (.string s) v ∧ (convert 26 9 (.slice a0 len cap)).run Tryd.prog v = .ok (.string s) v) (by kernel_rfl) hs0 (fun hHeld => ?_)
            clear hs0
            generalize w7.drew = w8 at *
            refine wpAnyH_take (i := 0) (v := .int .i64 0) rfl (by kernel_rfl) (by kernel_rfl) (by kernel_rfl) (fun _ _ _ h => h) (Or.inl ⟨by rfl, (by intro w hSw; (try dsimp only at hSw); go_simp)⟩) (by assumption) ?_
            try simp only [Act.put, List.getElem_toArray, List.getElem_cons_zero, List.getElem_cons_succ, List.setIfInBounds_toArray, List.set_cons_zero, List.set_cons_succ]
            refine wpAnyH_take (i := 1) (v := .bool true) rfl (by kernel_rfl) (by kernel_rfl) (by kernel_rfl) (fun _ _ _ h => h) (Or.inl ⟨by rfl, (by intro w hSw; (try dsimp only at hSw); go_simp)⟩) (by assumption) ?_
            try simp only [Act.put, List.getElem_toArray, List.getElem_cons_zero, List.getElem_cons_succ, List.setIfInBounds_toArray, List.set_cons_zero, List.set_cons_succ]
            refine wpAnyH_take (i := 2) (v := .bool true) rfl (by kernel_rfl) (by kernel_rfl) (by kernel_rfl) (fun _ _ _ h => h) (Or.inl ⟨by rfl, (by intro w hSw; (try dsimp only at hSw); go_simp)⟩) (by assumption) ?_
            try simp only [Act.put, List.getElem_toArray, List.getElem_cons_zero, List.getElem_cons_succ, List.setIfInBounds_toArray, List.set_cons_zero, List.set_cons_succ]
            refine wpAnyH_take (i := 3) (v := .slice (some ⟨g2, 0, none⟩) (o + len) (o + len)) rfl (by kernel_rfl) (by kernel_rfl) (by kernel_rfl) (fun _ _ _ h => h) (Or.inl ⟨by rfl, (by intro w hSw; (try dsimp only at hSw); go_simp)⟩) (by assumption) ?_
            try simp only [Act.put, List.getElem_toArray, List.getElem_cons_zero, List.getElem_cons_succ, List.setIfInBounds_toArray, List.set_cons_zero, List.set_cons_succ]
            refine wpAnyH_take (i := 4) (v := .int .i64 (o : Int)) rfl (by kernel_rfl) (by kernel_rfl) (by kernel_rfl) (fun _ _ _ h => h) (Or.inl ⟨by rfl, (by intro w hSw; (try dsimp only at hSw); go_simp)⟩) (by assumption) ?_
            try simp only [Act.put, List.getElem_toArray, List.getElem_cons_zero, List.getElem_cons_succ, List.setIfInBounds_toArray, List.set_cons_zero, List.set_cons_succ]
            refine wpAnyH_take (i := 5) (v := .slice a1 len len) rfl (by kernel_rfl) (by kernel_rfl) (by kernel_rfl) (fun _ _ _ h => h) (Or.inl ⟨by rfl, (by intro w hSw; (try dsimp only at hSw); go_simp)⟩) (by assumption) ?_
            try simp only [Act.put, List.getElem_toArray, List.getElem_cons_zero, List.getElem_cons_succ, List.setIfInBounds_toArray, List.set_cons_zero, List.set_cons_succ]
            refine wpAnyH_take (i := 6) (v := .string s) rfl (by kernel_rfl) (by kernel_rfl) (by kernel_rfl) (fun _ _ _ h => h) (Or.inl ⟨by rfl, (by intro w hSw; (try dsimp only at hSw); go_simp)⟩) (by assumption) ?_
            try simp only [Act.put, List.getElem_toArray, List.getElem_cons_zero, List.getElem_cons_succ, List.setIfInBounds_toArray, List.set_cons_zero, List.set_cons_succ]
            refine wpAnyH_take (i := 7) (v := .slice a0 len cap) rfl (by kernel_rfl) (by kernel_rfl) (by kernel_rfl) (fun _ _ _ h => h) (Or.inl ⟨by rfl, (by intro w hSw; (try dsimp only at hSw); go_simp)⟩) (by assumption) ?_
            try simp only [Act.put, List.getElem_toArray, List.getElem_cons_zero, List.getElem_cons_succ, List.setIfInBounds_toArray, List.set_cons_zero, List.set_cons_succ]
            refine wpAnyH_take (i := 8) (v := .string s) rfl (by kernel_rfl) (by kernel_rfl) (by kernel_rfl) (fun _ _ _ h => h) (Or.inl ⟨by rfl, (by intro w hSw; (try dsimp only at hSw); go_simp)⟩) (by assumption) ?_
            try simp only [Act.put, List.getElem_toArray, List.getElem_cons_zero, List.getElem_cons_succ, List.setIfInBounds_toArray, List.set_cons_zero, List.set_cons_succ]
            refine wpAnyH_take (i := 9) (v := .bool true) rfl (by kernel_rfl) (by kernel_rfl) (by kernel_rfl) (fun _ _ _ h => h) (Or.inl ⟨by rfl, (by intro w hSw; (try dsimp only at hSw); go_simp)⟩) (by assumption) ?_
            try simp only [Act.put, List.getElem_toArray, List.getElem_cons_zero, List.getElem_cons_succ, List.setIfInBounds_toArray, List.set_cons_zero, List.set_cons_succ]
            refine wpAnyH_take (i := 10) (v := .bool true) rfl (by kernel_rfl) (by kernel_rfl) (by kernel_rfl) (fun _ _ _ h => h) (Or.inl ⟨by rfl, (by intro w hSw; (try dsimp only at hSw); go_simp)⟩) (by assumption) ?_
            try simp only [Act.put, List.getElem_toArray, List.getElem_cons_zero, List.getElem_cons_succ, List.setIfInBounds_toArray, List.set_cons_zero, List.set_cons_succ]
            refine wpAnyH_take (i := 11) (v := .bool true) rfl (by kernel_rfl) (by kernel_rfl) (by kernel_rfl) (fun _ _ _ h => h) (Or.inl ⟨by rfl, (by intro w hSw; (try dsimp only at hSw); go_simp)⟩) (by assumption) ?_
            try simp only [Act.put, List.getElem_toArray, List.getElem_cons_zero, List.getElem_cons_succ, List.setIfInBounds_toArray, List.set_cons_zero, List.set_cons_succ]
            refine wpAnyH_done (by kernel_rfl) ?_ _
            clear hHeld
            go_wp2
            go_ret
            exact ⟨rfl, hb8⟩
end Go.Proofs.YtjpgepodkeccmaaDoor
