/-
  The walk of DiskPlays.
-/
import Derived.Test.YtfhaipeimpaeiaaYe
import Derived.Test.YtfhaipeimpaeiaaYf
namespace Go.Proofs.Ytfhaipeimpaeiaa
open Go.RowKit
set_option linter.unusedVariables false
set_option linter.unusedSimpArgs false
theorem info_c : (Try.prog.info? 35).map (·.size) = some 67 := by kernel_rfl
theorem cc_len {c : Cl} {v : Value} (h : c.b.length = 64) : (ccells c v).length = 67 := by simp [ccells, nums_len, h]
set_option maxHeartbeats 8000000 in
set_option maxRecDepth 100000 in
theorem plays_walk (z : Int) (ca : Option Addr) (cl cc : Nat) (cs : List Cl) (w : World) (hz0 : -9223372036854775808 ≤ z) (hz1 : z ≤ 9223372036854775807) (hcs : Cls w (· < w.heap.size) ca cl cs) (hcm : cl ≤ maxLen) :
    Calls Try.prog 4 #[.int .i64 z, .slice ca cl cc] w fun e w' => e = .returned (.bool true) ∧ Below w.heap.size w w' := by
  have HL0 := Lib.hid hcs
  unfold maxLen at hcm
  clear hcs hz0 hz1
  by_cases z0 : z < 0 ∨ 4096 < z
  · have hle : decide (z ≤ 4096) = decide (z < 0) := by
      rcases z0 with h | h
      · rw [decide_eq_true h, decide_eq_true (by omega)]
      · rw [decide_eq_false (by omega), decide_eq_false (by omega)]
    have Z0 := Lib.hid z0
    rcases z0 with h | h
    · have q1 : ¬ ((40 : Int) < z) := by omega
      have q1' : decide ((40 : Int) < z) = false := by simp; omega
      clear hle
      go_enter Try.func4, Try.ntmps4
      go_wp2_with (first | (go_at_call 10; refine awake_any.mono ?_; rintro e w1 ⟨rfl, hb1⟩) | (go_at_call 11; refine (new_bad Z0.out).mono ?_; rintro e w2 ⟨rfl, rfl⟩) | (go_at_call 12; refine (rnew_bad Z0.out).mono ?_; rintro e w2 ⟨rfl, rfl⟩) | fail)
      go_ret
      exact ⟨rfl, hb1⟩
    · have q1 : (40 : Int) < z := by omega
      have q2 : ¬ (z ≤ 4096) := by omega
      have q1' : decide ((40 : Int) < z) = true := by simp; omega
      have q2' : decide (z ≤ 4096) = false := by simp; omega
      clear hle
      go_enter Try.func4, Try.ntmps4
      go_wp2_with (first | (go_at_call 10; refine awake_any.mono ?_; rintro e w1 ⟨rfl, hb1⟩) | (go_at_call 11; refine (new_bad Z0.out).mono ?_; rintro e w2 ⟨rfl, rfl⟩) | (go_at_call 12; refine (rnew_bad Z0.out).mono ?_; rintro e w2 ⟨rfl, rfl⟩) | fail)
      go_ret
      exact ⟨rfl, hb1⟩
  · by_cases z1 : 40 < z
    · have q1' : decide ((40 : Int) < z) = true := by simpa using z1
      have q2 : z ≤ 4096 := by omega
      have q2' : decide (z ≤ 4096) = true := by simpa using q2
      clear z0
      go_enter Try.func4, Try.ntmps4
      go_wp2_with (first | (go_at_call 10; refine awake_any.mono ?_; rintro e w1 ⟨rfl, hb1⟩) | fail)
      go_ret
      exact ⟨rfl, hb1⟩
    · obtain ⟨n, rfl⟩ := Int.eq_ofNat_of_zero_le (show 0 ≤ z by omega)
      have hn : n ≤ 40 := by omega
      have q1' : decide ((40 : Int) < (n : Int)) = false := by simp; omega
      clear z0 z1
      go_enter Try.func4, Try.ntmps4
      go_wp2_with fail
      refine awake_any.mono ?_
      rintro e w1 ⟨rfl, hb1⟩
      have HB1 := Lib.hid hb1
      clear hb1
      go_wp2_with fail
      refine (new_ok (n := n) (by omega)).mono ?_
      rintro e w2 ⟨p, bb, mb, rfl, hd2, hp, hbb, hmb, hb2⟩
      have hs1 := HB1.out.size
      have H2 := Lib.hid (And.intro hd2 (And.intro (show w.heap.size ≤ p ∧ w.heap.size ≤ bb ∧ w.heap.size ≤ mb by omega) (HB1.out.trans (hb2.mono hs1))))
      clear hd2 hp hbb hmb hb2 hs1 HB1
      go_wp2_with fail
      refine (rnew_ok (n := n) (B := w.heap.size) (by omega) H2.out.2.2.size).mono ?_
      rintro e w3 ⟨r, vL, vN, vD, rfl, hr3, hb3⟩
      have H3 : Hid (∃ A, Two w3 w.heap.size p bb mb r n A ∧ Below w.heap.size w w3) := Lib.hid ⟨_, ⟨H2.out.1.old hb3, ⟨_, _, _, hr3⟩, H2.out.2.1, by have := H2.out.2.2.size; have := hb3.size; omega⟩, H2.out.2.2.trans (hb3.mono H2.out.2.2.size)⟩
      clear hr3 hb3 H2
      go_upto_block 0 with (fail)
      go_cut [10] from 47 (fun _ wr => Hid (∃ A, Two wr w.heap.size p bb mb r n A ∧ Below w.heap.size w wr))
      case first =>
        go_wp2
        go_loopw [10] (fun v wr => ∃ i : Nat, i ≤ cl ∧ i ≤ 80 ∧ v = .int .i64 (i : Int) ∧ Hid (∃ A, Two wr w.heap.size p bb mb r n A ∧ Below w.heap.size w wr)) (fun v _ => 80 - (intOf v).toNat)
        case atStart => exact ⟨0, Nat.zero_le _, Nat.zero_le _, rfl, H3⟩
        case round =>
          clear H3
          obtain ⟨i, hi1, hi2, rfl, HB0⟩ := hrel
          by_cases q1 : i < cl
          · have q1' : (i : Int) < (cl : Int) := by omega
            by_cases q2 : i < 80
            · have q2' : (i : Int) < 80 := by omega
              obtain ⟨A, hA⟩ := HB0.out
              have HA := Lib.hid hA
              clear hA HB0
              have HCL := HL0.out.keep HA.out.2.size (fun b hb' _ => HA.out.2.block b hb')
              obtain ⟨c, hc⟩ : ∃ c, cs[i]? = some c := ⟨_, List.getElem?_eq_getElem (by rw [HCL.1]; exact q1)⟩
              obtain ⟨sb, so, hca, hsB, _, hcat⟩ := HCL.2.resolve_left (by omega)
              obtain ⟨ga, gn, gm, hrg, hits, hgm, hcb, hcB⟩ := hcat i c hc
              have HC := Lib.hid (And.intro hrg (And.intro hits (And.intro hgm (And.intro hcb hcB))))
              have hi67 : (Try.prog.info? 35).map (·.size) = some (ccells c (.slice ga gn gm)).length := by rw [info_c, cc_len hcb]
              have HI := Lib.hid hi67
              subst hca
              clear HCL hcat hc hsB hrg hits hgm hcb hcB hi67
              go_wp2_with (first | ((with_reducible show wpList _ _ _ ((⟨_, Op.load 35 _, _, _, _, _⟩ : Oper) :: _) _ _); refine wpList_load_mid rfl 35 (.tmp 61) rfl sb (so + i * 67) rfl (ccells c (.slice ga gn gm)) _ HC.out.1 Try.underlying35 rfl HI.out ?_) | fail)
              refine (did_any HA.out.1 HC.out.2.1 HC.out.2.2.1 HC.out.2.2.2.1 HC.out.2.2.2.2).mono ?_
              rintro e w4 ⟨rfl, ⟨A', h4⟩, hb4⟩
              have H4 := Lib.hid (And.intro h4 (HA.out.2.trans hb4))
              clear h4 hb4 HA
              go_upto_region 16 with (fail)
              obtain ⟨xL, xN, xD, hr4⟩ := H4.out.1.r
              obtain ⟨da, dc, hxD, _⟩ := own_form hr4.dirty
              obtain ⟨na, nc, hxN, _⟩ := own_form hr4.now
              subst hxD hxN
              obtain ⟨ia, ic, hie, hit⟩ := own_its hr4.dirty
              have hkf : A'.fresh.length = (keys A'.fresh).length := by simp [keys]
              have hkm : (keys A'.fresh).length ≤ 4096 := by have h1 := hr4.ok.fok.size; omega
              obtain ⟨KK, hKK⟩ : ∃ KK, (keys A'.fresh).length = KK := ⟨_, rfl⟩
              rw [hKK] at hie hit hkf hkm hr4
              injection hie with hie1 hie2 hie3
              subst hie1
              have d2 : w4.cell? ⟨r, 2, none⟩ = some (.slice da KK dc) := hr4.c2
              have HR4 := Lib.hid (And.intro hit (And.intro hkf (And.intro hkm hKK)))
              have HRR := Lib.hid hr4
              clear hit hkf hkm hKK hie2 hie3 hr4
              refine wp_region_held_drew (S := fun w' => w'.cell? ⟨r, 2, none⟩ = some (.slice da KK dc)) (by kernel_rfl) d2 (fun hHeld => ?_)
              refine wpAnyH_take (i := 0) (v := .pointer (some ⟨p, 0, none⟩)) rfl (by kernel_rfl) (by kernel_rfl) (by kernel_rfl) (fun _ _ _ h => h) (Or.inl ⟨by rfl, (by intro w hSw; (try dsimp only at hSw); go_simp)⟩) (by assumption) ?_
              try simp only [Act.put, List.getElem_toArray, List.getElem_cons_zero, List.getElem_cons_succ, List.setIfInBounds_toArray, List.set_cons_zero, List.set_cons_succ]
              refine wpAnyH_take (i := 2) (v := .pointer (some ⟨r, 0, none⟩)) rfl (by kernel_rfl) (by kernel_rfl) (by kernel_rfl) (fun _ _ _ h => h) (Or.inl ⟨by rfl, (by intro w hSw; (try dsimp only at hSw); go_simp)⟩) (by assumption) ?_
              try simp only [Act.put, List.getElem_toArray, List.getElem_cons_zero, List.getElem_cons_succ, List.setIfInBounds_toArray, List.set_cons_zero, List.set_cons_succ]
              refine wpAnyH_take (i := 3) (v := .pointer (some ⟨r, 0, none⟩)) rfl (by kernel_rfl) (by kernel_rfl) (by kernel_rfl) (fun _ _ _ h => h) (Or.inl ⟨by rfl, (by intro w hSw; (try dsimp only at hSw); go_simp)⟩) (by assumption) ?_
              try simp only [Act.put, List.getElem_toArray, List.getElem_cons_zero, List.getElem_cons_succ, List.setIfInBounds_toArray, List.set_cons_zero, List.set_cons_succ]
              refine wpAnyH_take (i := 4) (v := .pointer (some ⟨r, 2, none⟩)) rfl (by kernel_rfl) (by kernel_rfl) (by kernel_rfl) (fun _ _ _ h => h) (Or.inl ⟨by rfl, (by intro w hSw; (try dsimp only at hSw); go_simp)⟩) (by assumption) ?_
              try simp only [Act.put, List.getElem_toArray, List.getElem_cons_zero, List.getElem_cons_succ, List.setIfInBounds_toArray, List.set_cons_zero, List.set_cons_succ]
              refine wpAnyH_take (i := 5) (v := .slice da KK dc) rfl (by kernel_rfl) (by kernel_rfl) (by kernel_rfl) (fun _ _ _ h => h) (Or.inl ⟨by rfl, (by intro w hSw; (try dsimp only at hSw); go_simp)⟩) (by assumption) ?_
              try simp only [Act.put, List.getElem_toArray, List.getElem_cons_zero, List.getElem_cons_succ, List.setIfInBounds_toArray, List.set_cons_zero, List.set_cons_succ]
              refine wpAnyH_ready (rs := [1]) (by kernel_rfl) (by simp) (AllReadyH.cons rfl (fun K hK => ?_) AllReadyH.nil)
              try simp only [List.getElem_toArray, List.getElem_cons_zero, List.getElem_cons_succ]
              go_simp
              go_at_call 15
              have hdd : Dk w4.drew p bb mb A' n := H4.out.1.d.keep rfl rfl rfl
              refine (dirty_any hdd).mono ?_
              rintro e v5 ⟨g5, rfl, hg5, _, hb5'⟩
              have hb5 : Below w4.heap.size w4 v5 := ⟨hb5'.os, hb5'.tape, hb5'.output, hb5'.size, hb5'.block⟩
              rw [HR4.out.2.1]
              have hi5 : Its v5 (fun _ => True) (some ⟨g5, 0, none⟩) KK (toI (keys A'.fresh)) := by
                have := its_whole (l := keys A'.fresh) hg5
                rw [HR4.out.2.2.2] at this
                exact this
              have H5 := Lib.hid (And.intro hi5 (And.intro (HR4.out.1.keep hb5.size (fun b hb _ => hb5.block b hb)) (And.intro (H4.out.1.below hb5) (And.intro (HRR.out.below hb5) (H4.out.2.trans (hb5.mono H4.out.2.size))))))
              have d5 : v5.cell? ⟨r, 2, none⟩ = some (.slice da KK dc) := H5.out.2.2.2.1.c2
              clear hdd hg5 hb5' hb5 hi5 d2
              go_wp2_with fail
              refine hK.out _ _ d5 (fun hHeld => ?_)
              clear hK K
              try simp only [Act.put, List.getElem_toArray, List.getElem_cons_zero, List.getElem_cons_succ, List.setIfInBounds_toArray, List.set_cons_zero, List.set_cons_succ]
              refine wpAnyH_ready (rs := [6]) (by kernel_rfl) (by simp) (AllReadyH.cons rfl (fun K hK => ?_) AllReadyH.nil)
              try simp only [List.getElem_toArray, List.getElem_cons_zero, List.getElem_cons_succ]
              go_simp
              go_at_call 14
              refine (same_any H5.out.1 H5.out.2.1 (by have := HR4.out.2.2.1; unfold maxLen; omega)).mono ?_
              rintro e v6 ⟨rfl, q6, rfl⟩
              have d6 : (v5.drewN q6).cell? ⟨r, 2, none⟩ = some (.slice da KK dc) := d5
              have H6 : Hid (Two (v5.drewN q6) w.heap.size p bb mb r n A' ∧ Below w.heap.size w (v5.drewN q6) ∧ Whole (v5.drewN q6) r 40 #[xL, .slice na n nc, .slice da KK dc, .bool A'.down]) := Lib.hid ⟨⟨H5.out.2.2.1.d.keep rfl rfl rfl, H5.out.2.2.1.r.imp fun _ h => h.imp fun _ h => h.imp fun _ h => ⟨h.cells, h.last, h.now, h.dirty, h.apart, h.base, h.ok⟩, H5.out.2.2.1.p, H5.out.2.2.1.size⟩, below_drewN H5.out.2.2.2.2 q6, H5.out.2.2.2.1.cells⟩
              generalize v5.drewN q6 = v6 at *
              clear H5 d5
              go_wp2_with fail
              refine hK.out _ _ d6 (fun hHeld => ?_)
              clear hK K
              try simp only [Act.put, List.getElem_toArray, List.getElem_cons_zero, List.getElem_cons_succ, List.setIfInBounds_toArray, List.set_cons_zero, List.set_cons_succ]
              refine wpAnyH_take (i := 7) (v := .bool true) rfl (by kernel_rfl) (by kernel_rfl) (by kernel_rfl) (fun _ _ _ h => h) (Or.inl ⟨by rfl, (by intro w hSw; (try dsimp only at hSw); go_simp)⟩) (by assumption) ?_
              try simp only [Act.put, List.getElem_toArray, List.getElem_cons_zero, List.getElem_cons_succ, List.setIfInBounds_toArray, List.set_cons_zero, List.set_cons_succ]
              refine wpAnyH_done (by kernel_rfl) ?_ _
              clear d6
              go_upto_region 17 with (fail)
              have d1 : v6.cell? ⟨r, 1, none⟩ = some (.slice na n nc) := H6.out.2.2.cell 1
              have d3 : v6.cell? ⟨r, 3, none⟩ = some (.bool A'.down) := H6.out.2.2.cell 3
              have p0 := H6.out.1.d.c0
              have p2 := H6.out.1.d.c2
              have e1 : (A'.down != A'.down) = false := by simp
              have e2 : ((n : Int) != (n : Int)) = false := by simp
              refine wp_region_held_drew (S := fun w' => w'.cell? ⟨r, 1, none⟩ = some (.slice na n nc) ∧ w'.cell? ⟨r, 3, none⟩ = some (.bool A'.down)) (by kernel_rfl) ⟨d1, d3⟩ (fun hHeld => ?_)
              refine wpAnyH_take (i := 0) (v := .bool true) rfl (by kernel_rfl) (by kernel_rfl) (by kernel_rfl) (fun _ _ _ h => h) (Or.inl ⟨by rfl, (by intro w hSw; (try dsimp only at hSw); go_simp)⟩) (by assumption) ?_
              try simp only [Act.put, List.getElem_toArray, List.getElem_cons_zero, List.getElem_cons_succ, List.setIfInBounds_toArray, List.set_cons_zero, List.set_cons_succ]
              refine wpAnyH_take (i := 1) (v := .bool false) rfl (by kernel_rfl) (by kernel_rfl) (by kernel_rfl) (fun _ _ _ h => h) (Or.inl ⟨by rfl, (by intro w hSw; (try dsimp only at hSw); go_simp)⟩) (by assumption) ?_
              try simp only [Act.put, List.getElem_toArray, List.getElem_cons_zero, List.getElem_cons_succ, List.setIfInBounds_toArray, List.set_cons_zero, List.set_cons_succ]
              refine wpAnyH_take (i := 2) (v := .bool false) rfl (by kernel_rfl) (by kernel_rfl) (by kernel_rfl) (fun _ _ _ h => h) (Or.inl ⟨by rfl, (by intro w hSw; (try dsimp only at hSw); go_simp)⟩) (by assumption) ?_
              try simp only [Act.put, List.getElem_toArray, List.getElem_cons_zero, List.getElem_cons_succ, List.setIfInBounds_toArray, List.set_cons_zero, List.set_cons_succ]
              refine wpAnyH_take (i := 3) (v := .bool true) rfl (by kernel_rfl) (by kernel_rfl) (by kernel_rfl) (fun _ _ _ h => h) (Or.inl ⟨by rfl, (by intro w hSw; (try dsimp only at hSw); go_simp)⟩) (by assumption) ?_
              try simp only [Act.put, List.getElem_toArray, List.getElem_cons_zero, List.getElem_cons_succ, List.setIfInBounds_toArray, List.set_cons_zero, List.set_cons_succ]
              refine wpAnyH_take (i := 4) (v := .bool false) rfl (by kernel_rfl) (by kernel_rfl) (by kernel_rfl) (fun _ _ _ h => h) (Or.inl ⟨by rfl, (by intro w hSw; (try dsimp only at hSw); go_simp)⟩) (by assumption) ?_
              try simp only [Act.put, List.getElem_toArray, List.getElem_cons_zero, List.getElem_cons_succ, List.setIfInBounds_toArray, List.set_cons_zero, List.set_cons_succ]
              refine wpAnyH_take (i := 5) (v := .bool false) rfl (by kernel_rfl) (by kernel_rfl) (by kernel_rfl) (fun _ _ _ h => h) (Or.inl ⟨by rfl, (by intro w hSw; (try dsimp only at hSw); go_simp)⟩) (by assumption) ?_
              try simp only [Act.put, List.getElem_toArray, List.getElem_cons_zero, List.getElem_cons_succ, List.setIfInBounds_toArray, List.set_cons_zero, List.set_cons_succ]
              refine wpAnyH_take (i := 6) (v := .bool false) rfl (by kernel_rfl) (by kernel_rfl) (by kernel_rfl) (fun _ _ _ h => h) (Or.inl ⟨by rfl, (by intro w hSw; (try dsimp only at hSw); go_simp)⟩) (by assumption) ?_
              try simp only [Act.put, List.getElem_toArray, List.getElem_cons_zero, List.getElem_cons_succ, List.setIfInBounds_toArray, List.set_cons_zero, List.set_cons_succ]
              refine wpAnyH_take (i := 7) (v := .pointer (some ⟨p, 0, none⟩)) rfl (by kernel_rfl) (by kernel_rfl) (by kernel_rfl) (fun _ _ _ h => h) (Or.inl ⟨by rfl, (by intro w hSw; (try dsimp only at hSw); go_simp)⟩) (by assumption) ?_
              try simp only [Act.put, List.getElem_toArray, List.getElem_cons_zero, List.getElem_cons_succ, List.setIfInBounds_toArray, List.set_cons_zero, List.set_cons_succ]
              refine wpAnyH_take (i := 9) (v := .pointer (some ⟨r, 0, none⟩)) rfl (by kernel_rfl) (by kernel_rfl) (by kernel_rfl) (fun _ _ _ h => h) (Or.inl ⟨by rfl, (by intro w hSw; (try dsimp only at hSw); go_simp)⟩) (by assumption) ?_
              try simp only [Act.put, List.getElem_toArray, List.getElem_cons_zero, List.getElem_cons_succ, List.setIfInBounds_toArray, List.set_cons_zero, List.set_cons_succ]
              refine wpAnyH_take (i := 10) (v := .pointer (some ⟨r, 0, none⟩)) rfl (by kernel_rfl) (by kernel_rfl) (by kernel_rfl) (fun _ _ _ h => h) (Or.inl ⟨by rfl, (by intro w hSw; (try dsimp only at hSw); go_simp)⟩) (by assumption) ?_
              try simp only [Act.put, List.getElem_toArray, List.getElem_cons_zero, List.getElem_cons_succ, List.setIfInBounds_toArray, List.set_cons_zero, List.set_cons_succ]
              refine wpAnyH_take (i := 11) (v := .pointer (some ⟨r, 3, none⟩)) rfl (by kernel_rfl) (by kernel_rfl) (by kernel_rfl) (fun _ _ _ h => h) (Or.inl ⟨by rfl, (by intro w hSw; (try dsimp only at hSw); go_simp)⟩) (by assumption) ?_
              try simp only [Act.put, List.getElem_toArray, List.getElem_cons_zero, List.getElem_cons_succ, List.setIfInBounds_toArray, List.set_cons_zero, List.set_cons_succ]
              refine wpAnyH_take (i := 12) (v := .bool A'.down) rfl (by kernel_rfl) (by kernel_rfl) (by kernel_rfl) (fun _ _ _ h => h) (Or.inl ⟨by rfl, (by intro w hSw; (try dsimp only at hSw); go_simp)⟩) (by assumption) ?_
              try simp only [Act.put, List.getElem_toArray, List.getElem_cons_zero, List.getElem_cons_succ, List.setIfInBounds_toArray, List.set_cons_zero, List.set_cons_succ]
              refine wpAnyH_ready (rs := [8]) (by kernel_rfl) (by simp) (AllReadyH.cons rfl (fun K hK => ?_) AllReadyH.nil)
              try simp only [List.getElem_toArray, List.getElem_cons_zero, List.getElem_cons_succ]
              go_simp
              go_at_call 16
              refine (down_any (w := v6.drew) p2).mono ?_
              rintro e v7 ⟨rfl, rfl⟩
              go_wp2_with fail
              refine hK.out _ _ hHeld (fun hHeld => ?_)
              clear hK K
              try simp only [Act.put, List.getElem_toArray, List.getElem_cons_zero, List.getElem_cons_succ, List.setIfInBounds_toArray, List.set_cons_zero, List.set_cons_succ]
              refine wpAnyH_take (i := 13) (v := .bool false) rfl (by kernel_rfl) (by kernel_rfl) (by kernel_rfl) (fun _ _ _ h => h) (Or.inl ⟨by rfl, (by intro w hSw; (try dsimp only at hSw); go_simp)⟩) (by assumption) ?_
              try simp only [Act.put, List.getElem_toArray, List.getElem_cons_zero, List.getElem_cons_succ, List.setIfInBounds_toArray, List.set_cons_zero, List.set_cons_succ]
              refine wpAnyH_take (i := 14) (v := .bool false) rfl (by kernel_rfl) (by kernel_rfl) (by kernel_rfl) (fun _ _ _ h => h) (Or.inl ⟨by rfl, (by intro w hSw; (try dsimp only at hSw); go_simp)⟩) (by assumption) ?_
              try simp only [Act.put, List.getElem_toArray, List.getElem_cons_zero, List.getElem_cons_succ, List.setIfInBounds_toArray, List.set_cons_zero, List.set_cons_succ]
              refine wpAnyH_take (i := 15) (v := .bool false) rfl (by kernel_rfl) (by kernel_rfl) (by kernel_rfl) (fun _ _ _ h => h) (Or.inl ⟨by rfl, (by intro w hSw; (try dsimp only at hSw); go_simp)⟩) (by assumption) ?_
              try simp only [Act.put, List.getElem_toArray, List.getElem_cons_zero, List.getElem_cons_succ, List.setIfInBounds_toArray, List.set_cons_zero, List.set_cons_succ]
              refine wpAnyH_take (i := 16) (v := .pointer (some ⟨p, 0, none⟩)) rfl (by kernel_rfl) (by kernel_rfl) (by kernel_rfl) (fun _ _ _ h => h) (Or.inl ⟨by rfl, (by intro w hSw; (try dsimp only at hSw); go_simp)⟩) (by assumption) ?_
              try simp only [Act.put, List.getElem_toArray, List.getElem_cons_zero, List.getElem_cons_succ, List.setIfInBounds_toArray, List.set_cons_zero, List.set_cons_succ]
              refine wpAnyH_take (i := 18) (v := .pointer (some ⟨r, 0, none⟩)) rfl (by kernel_rfl) (by kernel_rfl) (by kernel_rfl) (fun _ _ _ h => h) (Or.inl ⟨by rfl, (by intro w hSw; (try dsimp only at hSw); go_simp)⟩) (by assumption) ?_
              try simp only [Act.put, List.getElem_toArray, List.getElem_cons_zero, List.getElem_cons_succ, List.setIfInBounds_toArray, List.set_cons_zero, List.set_cons_succ]
              refine wpAnyH_take (i := 19) (v := .pointer (some ⟨r, 0, none⟩)) rfl (by kernel_rfl) (by kernel_rfl) (by kernel_rfl) (fun _ _ _ h => h) (Or.inl ⟨by rfl, (by intro w hSw; (try dsimp only at hSw); go_simp)⟩) (by assumption) ?_
              try simp only [Act.put, List.getElem_toArray, List.getElem_cons_zero, List.getElem_cons_succ, List.setIfInBounds_toArray, List.set_cons_zero, List.set_cons_succ]
              refine wpAnyH_take (i := 20) (v := .pointer (some ⟨r, 1, none⟩)) rfl (by kernel_rfl) (by kernel_rfl) (by kernel_rfl) (fun _ _ _ h => h) (Or.inl ⟨by rfl, (by intro w hSw; (try dsimp only at hSw); go_simp)⟩) (by assumption) ?_
              try simp only [Act.put, List.getElem_toArray, List.getElem_cons_zero, List.getElem_cons_succ, List.setIfInBounds_toArray, List.set_cons_zero, List.set_cons_succ]
              refine wpAnyH_take (i := 21) (v := .slice na n nc) rfl (by kernel_rfl) (by kernel_rfl) (by kernel_rfl) (fun _ _ _ h => h) (Or.inl ⟨by rfl, (by intro w hSw; (try dsimp only at hSw); go_simp)⟩) (by assumption) ?_
              try simp only [Act.put, List.getElem_toArray, List.getElem_cons_zero, List.getElem_cons_succ, List.setIfInBounds_toArray, List.set_cons_zero, List.set_cons_succ]
              refine wpAnyH_take (i := 22) (v := .int .i64 (n : Int)) rfl (by kernel_rfl) (by kernel_rfl) (by kernel_rfl) (fun _ _ _ h => h) (Or.inl ⟨by rfl, (by intro w hSw; (try dsimp only at hSw); go_simp)⟩) (by assumption) ?_
              try simp only [Act.put, List.getElem_toArray, List.getElem_cons_zero, List.getElem_cons_succ, List.setIfInBounds_toArray, List.set_cons_zero, List.set_cons_succ]
              refine wpAnyH_ready (rs := [17]) (by kernel_rfl) (by simp) (AllReadyH.cons rfl (fun K hK => ?_) AllReadyH.nil)
              try simp only [List.getElem_toArray, List.getElem_cons_zero, List.getElem_cons_succ]
              go_simp
              go_at_call 17
              refine (blocks_any (w := v6.drew) (by omega) p0).mono ?_
              rintro e v7 ⟨rfl, rfl⟩
              go_wp2_with fail
              refine hK.out _ _ hHeld (fun hHeld => ?_)
              clear hK K
              try simp only [Act.put, List.getElem_toArray, List.getElem_cons_zero, List.getElem_cons_succ, List.setIfInBounds_toArray, List.set_cons_zero, List.set_cons_succ]
              refine wpAnyH_take (i := 23) (v := .bool false) rfl (by kernel_rfl) (by kernel_rfl) (by kernel_rfl) (fun _ _ _ h => h) (Or.inl ⟨by rfl, (by intro w hSw; (try dsimp only at hSw); go_simp)⟩) (by assumption) ?_
              try simp only [Act.put, List.getElem_toArray, List.getElem_cons_zero, List.getElem_cons_succ, List.setIfInBounds_toArray, List.set_cons_zero, List.set_cons_succ]
              refine wpAnyH_take (i := 24) (v := .bool false) rfl (by kernel_rfl) (by kernel_rfl) (by kernel_rfl) (fun _ _ _ h => h) (Or.inl ⟨by rfl, (by intro w hSw; (try dsimp only at hSw); go_simp)⟩) (by assumption) ?_
              try simp only [Act.put, List.getElem_toArray, List.getElem_cons_zero, List.getElem_cons_succ, List.setIfInBounds_toArray, List.set_cons_zero, List.set_cons_succ]
              refine wpAnyH_done (by kernel_rfl) ?_ _
              clear d1 d3 p0 p2 hHeld
              go_wp2
              go_roundw
              case rel => exact ⟨i + 1, by omega, by omega, by go_num, Lib.hid ⟨A', ⟨H6.out.1.d.keep rfl rfl rfl, H6.out.1.r.imp fun _ h => h.imp fun _ h => h.imp fun _ h => ⟨h.cells, h.last, h.now, h.dirty, h.apart, h.base, h.ok⟩, H6.out.1.p, H6.out.1.size⟩, H6.out.2.1.os, H6.out.2.1.tape, H6.out.2.1.output, H6.out.2.1.size, H6.out.2.1.block⟩⟩
              case measure => simp [intOf]; omega
            · have q2' : ¬ ((i : Int) < 80) := by omega
              go_wp2
              go_meet
              case rel => exact HB0
          · have q1' : ¬ ((i : Int) < (cl : Int)) := by omega
            go_wp2
            go_meet
            case rel => exact HB0
      case rest =>
      clear H3
      obtain ⟨A, hA⟩ := hcut.out
      have HA := Lib.hid hA
      clear hA hcut
      go_wp2_with fail
      refine (start_any HA.out.1.d).mono ?_
      rintro e w5 ⟨rfl, hd5, hg5, _⟩
      have ho5 : Only [p, bb, mb] wc w5 := Only.of_grown hg5 (by simp)
      obtain ⟨vL, vN, vD, hr⟩ := HA.out.1.r
      have hr5 := hr.only HA.out.1.d ho5
      have H5 := Lib.hid (And.intro hd5 (And.intro ho5 hr5))
      clear hd5 ho5 hr hr5 hg5
      go_wp2_with fail
      refine (rstart_any H5.out.2.2).mono ?_
      rintro e w6 ⟨rfl, hr6, hrf⟩
      have h6 := HA.out.1.steps H5.out.1 H5.out.2.1 ⟨_, _, _, hr6⟩ hrf
      obtain ⟨A2, hA2⟩ : ∃ A2, Dm.start A = A2 := ⟨_, rfl⟩
      rw [hA2] at h6
      have HD2 : Hid (A2.down = false) := Lib.hid (by rw [← hA2]; rfl)
      have H6 : Hid (Two w6 w.heap.size p bb mb r n A2 ∧ Below w.heap.size w w6) := Lib.hid ⟨h6.1, HA.out.2.trans h6.2⟩
      clear hr6 hrf h6 hA2 H5 HA
      go_wp2
      go_loopw [13] (fun v wr => ∃ k : Nat, k ≤ n ∧ v = .int .i64 (k : Int) ∧ Hid (Two wr w.heap.size p bb mb r n A2 ∧ Below w.heap.size w wr)) (fun v _ => n - (intOf v).toNat)
      case atStart => exact ⟨0, Nat.zero_le _, rfl, H6⟩
      case round =>
        clear H6
        obtain ⟨k, hk, rfl, HB⟩ := hrel
        obtain ⟨yL, yN, yD, hry⟩ := HB.out.1.r
        obtain ⟨ya, yc, hyN, _⟩ := own_form hry.now
        subst hyN
        have dy : wr.cell? ⟨r, 1, none⟩ = some (.slice ya n yc) := hry.c1
        clear hry
        by_cases q1 : k < n
        · have q1' : (k : Int) < (n : Int) := by omega
          go_wp2_with fail
          refine (read_any HB.out.1.d HD2.out q1).mono ?_
          rintro e w7 ⟨rfl, hb7⟩
          obtain ⟨X, hX⟩ : ∃ X, Dm.read A2 k = X := ⟨_, rfl⟩
          rw [hX]
          have hnow := Dm.now_get HB.out.1.d.ok
          have hb : Dm.blk (Dm.now A2) k = X := by rw [hnow.2.2, hX]
          have hbl : X.length = 64 := by rw [← hb]; exact Dm.blk_len hnow.1 q1
          have HX := Lib.hid (And.intro hb hbl)
          obtain ⟨w8, h8, k8, b8⟩ := boxed w7 X
          have hb8 := hb7.trans (b8.mono hb7.size)
          have H8 := Lib.hid (And.intro (HB.out.1.below hb8) (And.intro (HB.out.2.trans (hb8.mono HB.out.1.size)) (And.intro k8 h8)))
          obtain ⟨xL, xN, xD, hr8⟩ := H8.out.1.r
          obtain ⟨nb, nc, cur, hvN, hnbB, hnb, hns, hnt, _⟩ := own_at hr8.now (by omega)
          subst hvN
          have hr1 : w8.rangeAt w7.heap.size 0 (nums X) := fun j v hv => by rw [Nat.zero_add, k8.cell, List.getElem?_toArray]; exact hv
          have hrg : w8.rangeAt nb (k * 64) (nums X) := fun j v hv => by
            have hj : j < 64 := by have := (List.getElem?_eq_some_iff.1 hv).1; rw [nums_len, HX.out.2] at this; exact this
            rw [hnb.cell]
            have := congrArg (·[k * 64 + j]?) hnt
            simp only [List.getElem?_take] at this
            rw [if_pos (by omega), Array.getElem?_toList] at this
            rw [this, ← hv, ← HX.out.1]
            unfold nums
            rw [List.getElem?_map, List.getElem?_map, Dm.blk_get, if_pos hj, Nat.mul_comm]
          have d1 : w8.cell? ⟨r, 1, none⟩ = some (.slice (some ⟨nb, 0, none⟩) n nc) := hr8.c1
          have hneq : ∀ w, (binOp .neq 32 (.agg (nums X).toArray) (.agg (nums X).toArray)).run Try.prog w = .ok (.bool false) w := fun w => by rw [neq64 X X HX.out.2 HX.out.2 w, decide_eq_true rfl]; rfl
          clear hb7 hX hnow hb hbl h8 k8 b8 hb8 hr8 hnbB hnb hns hnt
          have hzb := zero_b
          go_upto_region 25 with (first | ((with_reducible show wpList _ _ _ ((⟨_, Op.store 32 _ _, _, _, _, _⟩ : Oper) :: _) _ _); refine wpList_store_row rfl 32 (.tmp 14) (.tmp 113) rfl w7.heap.size (nums X).toArray rfl rfl 32 zb (Whole.new w7 _ _) (info_bn HX.out.2) (size_bn HX.out.2) (all_nums _) ?_; rw [H8.out.2.2.2]) | fail)
          clear hzb
          refine wp_region_held_drew (S := fun w' => w'.rangeAt w7.heap.size 0 (nums X) ∧ w'.cell? ⟨r, 1, none⟩ = some (.slice (some ⟨nb, 0, none⟩) n nc) ∧ w'.rangeAt nb (k * 64) (nums X)) (by kernel_rfl) ⟨hr1, d1, hrg⟩ (fun hHeld => ?_)
          clear hr1 d1 hrg
          refine wpAnyH_take (i := 0) (v := .agg (nums X).toArray) rfl (by kernel_rfl) (by kernel_rfl) (by kernel_rfl) (fun _ _ _ h => h) (yieldsIf_load_mid (by rfl) 32 _ rfl _ _ rfl _ _ (fun w hSw => hSw.1) und_b rfl (info_bm HX.out.2)) (by assumption) ?_
          try simp only [Act.put, List.getElem_toArray, List.getElem_cons_zero, List.getElem_cons_succ, List.setIfInBounds_toArray, List.set_cons_zero, List.set_cons_succ]
          refine wpAnyH_take (i := 1) (v := .pointer (some ⟨r, 0, none⟩)) rfl (by kernel_rfl) (by kernel_rfl) (by kernel_rfl) (fun _ _ _ h => h) (Or.inl ⟨by rfl, (by intro w hSw; (try dsimp only at hSw); go_simp)⟩) (by assumption) ?_
          try simp only [Act.put, List.getElem_toArray, List.getElem_cons_zero, List.getElem_cons_succ, List.setIfInBounds_toArray, List.set_cons_zero, List.set_cons_succ]
          refine wpAnyH_take (i := 2) (v := .pointer (some ⟨r, 0, none⟩)) rfl (by kernel_rfl) (by kernel_rfl) (by kernel_rfl) (fun _ _ _ h => h) (Or.inl ⟨by rfl, (by intro w hSw; (try dsimp only at hSw); go_simp)⟩) (by assumption) ?_
          try simp only [Act.put, List.getElem_toArray, List.getElem_cons_zero, List.getElem_cons_succ, List.setIfInBounds_toArray, List.set_cons_zero, List.set_cons_succ]
          refine wpAnyH_take (i := 3) (v := .pointer (some ⟨r, 1, none⟩)) rfl (by kernel_rfl) (by kernel_rfl) (by kernel_rfl) (fun _ _ _ h => h) (Or.inl ⟨by rfl, (by intro w hSw; (try dsimp only at hSw); go_simp)⟩) (by assumption) ?_
          try simp only [Act.put, List.getElem_toArray, List.getElem_cons_zero, List.getElem_cons_succ, List.setIfInBounds_toArray, List.set_cons_zero, List.set_cons_succ]
          refine wpAnyH_take (i := 4) (v := .slice (some ⟨nb, 0, none⟩) n nc) rfl (by kernel_rfl) (by kernel_rfl) (by kernel_rfl) (fun _ _ _ h => h) (Or.inl ⟨by rfl, (by intro w hSw; (try dsimp only at hSw); go_simp)⟩) (by assumption) ?_
          try simp only [Act.put, List.getElem_toArray, List.getElem_cons_zero, List.getElem_cons_succ, List.setIfInBounds_toArray, List.set_cons_zero, List.set_cons_succ]
          refine wpAnyH_take (i := 5) (v := .int .i64 (k : Int)) rfl (by kernel_rfl) (by kernel_rfl) (by kernel_rfl) (fun _ _ _ h => h) (Or.inl ⟨by rfl, (by intro w hSw; (try dsimp only at hSw); go_simp)⟩) (by assumption) ?_
          try simp only [Act.put, List.getElem_toArray, List.getElem_cons_zero, List.getElem_cons_succ, List.setIfInBounds_toArray, List.set_cons_zero, List.set_cons_succ]
          refine wpAnyH_take (i := 6) (v := .pointer (some ⟨nb, k * 64, none⟩)) rfl (by kernel_rfl) (by kernel_rfl) (by kernel_rfl) (fun _ _ _ h => h) (Or.inl ⟨by rfl, (by intro w hSw; (try dsimp only at hSw); go_simp)⟩) (by assumption) ?_
          try simp only [Act.put, List.getElem_toArray, List.getElem_cons_zero, List.getElem_cons_succ, List.setIfInBounds_toArray, List.set_cons_zero, List.set_cons_succ]
          refine wpAnyH_take (i := 7) (v := .agg (nums X).toArray) rfl (by kernel_rfl) (by kernel_rfl) (by kernel_rfl) (fun _ _ _ h => h) (yieldsIf_load_mid (by rfl) 32 _ rfl _ _ rfl _ _ (fun w hSw => hSw.2.2) und_b rfl (info_bm HX.out.2)) (by assumption) ?_
          try simp only [Act.put, List.getElem_toArray, List.getElem_cons_zero, List.getElem_cons_succ, List.setIfInBounds_toArray, List.set_cons_zero, List.set_cons_succ]
          refine wpAnyH_take (i := 8) (v := .bool false) rfl (by kernel_rfl) (by kernel_rfl) (by kernel_rfl) (fun _ _ _ h => h) (Or.inl ⟨by rfl, (by intro w hSw; (try dsimp only at hSw); go_simp)⟩) (by assumption) ?_
          try simp only [Act.put, List.getElem_toArray, List.getElem_cons_zero, List.getElem_cons_succ, List.setIfInBounds_toArray, List.set_cons_zero, List.set_cons_succ]
          refine wpAnyH_take (i := 9) (v := .bool false) rfl (by kernel_rfl) (by kernel_rfl) (by kernel_rfl) (fun _ _ _ h => h) (Or.inl ⟨by rfl, (by intro w hSw; (try dsimp only at hSw); go_simp)⟩) (by assumption) ?_
          try simp only [Act.put, List.getElem_toArray, List.getElem_cons_zero, List.getElem_cons_succ, List.setIfInBounds_toArray, List.set_cons_zero, List.set_cons_succ]
          refine wpAnyH_take (i := 10) (v := .int .i64 0) rfl (by kernel_rfl) (by kernel_rfl) (by kernel_rfl) (fun _ _ _ h => h) (Or.inl ⟨by rfl, (by intro w hSw; (try dsimp only at hSw); go_simp)⟩) (by assumption) ?_
          try simp only [Act.put, List.getElem_toArray, List.getElem_cons_zero, List.getElem_cons_succ, List.setIfInBounds_toArray, List.set_cons_zero, List.set_cons_succ]
          refine wpAnyH_take (i := 11) (v := .bool false) rfl (by kernel_rfl) (by kernel_rfl) (by kernel_rfl) (fun _ _ _ h => h) (Or.inl ⟨by rfl, (by intro w hSw; (try dsimp only at hSw); go_simp)⟩) (by assumption) ?_
          try simp only [Act.put, List.getElem_toArray, List.getElem_cons_zero, List.getElem_cons_succ, List.setIfInBounds_toArray, List.set_cons_zero, List.set_cons_succ]
          refine wpAnyH_take (i := 12) (v := .bool false) rfl (by kernel_rfl) (by kernel_rfl) (by kernel_rfl) (fun _ _ _ h => h) (Or.inl ⟨by rfl, (by intro w hSw; (try dsimp only at hSw); go_simp)⟩) (by assumption) ?_
          try simp only [Act.put, List.getElem_toArray, List.getElem_cons_zero, List.getElem_cons_succ, List.setIfInBounds_toArray, List.set_cons_zero, List.set_cons_succ]
          refine wpAnyH_done (by kernel_rfl) ?_ _
          clear hHeld hneq
          go_wp2
          go_roundw
          case rel => exact ⟨k + 1, by omega, by go_num, Lib.hid ⟨⟨H8.out.1.d.keep rfl rfl rfl, H8.out.1.r.imp fun _ h => h.imp fun _ h => h.imp fun _ h => ⟨h.cells, h.last, h.now, h.dirty, h.apart, h.base, h.ok⟩, H8.out.1.p, H8.out.1.size⟩, H8.out.2.1.os, H8.out.2.1.tape, H8.out.2.1.output, H8.out.2.1.size, H8.out.2.1.block⟩⟩
          case measure => simp [intOf]; omega
        · have e1 : k = n := by omega
          have q1' : ¬ ((k : Int) < (n : Int)) := by omega
          go_wp2
          go_ret
          exact ⟨rfl, HB.out.2⟩
end Go.Proofs.Ytfhaipeimpaeiaa
