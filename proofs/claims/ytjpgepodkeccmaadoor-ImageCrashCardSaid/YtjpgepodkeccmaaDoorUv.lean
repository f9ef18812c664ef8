/-
  The walk of ImageCrash: behind a crash a machine starts what it started, or what it was to start.
-/
import Derived.Test.YtjpgepodkeccmaaDoorUr
import Derived.Test.YtjpgepodkeccmaaDoorZu
namespace Go.Proofs.YtjpgepodkeccmaaDoor
open Go.RowKit
set_option linter.unusedVariables false
set_option linter.unusedSimpArgs false
set_option maxRecDepth 20000
theorem yields_cmpB {ops : Array Oper} {S : World → Prop} {o : Oper} {a : Act} (hw : Region.wanted o (yielded ops a.tmps) = true) (op2 : BinOp) (x y : Operand) (ty : TypeId) (ho : o.op = .binOp op2 41 x y ty)
    (C D : Array Value) (hx : a.eval x = .agg C) (hy : a.eval y = .agg D) (r : Bool) (hr : ∀ w, (binOp op2 41 (.agg C) (.agg D)).run Tryd.prog w = .ok (.bool r) w) : YieldsIf Tryd.prog ops S o (.bool r) a := by
  refine Or.inl ⟨hw, fun w _ => ?_⟩
  unfold execOp
  simp only [ho, hx, hy, Sem.run_bind, guard_b, hr, Result.andThen_ok]
  rfl
/-- What lies outside of every disk. -/
def Kp (w wr : World) (L : List (Nat × TypeId × Array Value)) : Prop := Below w.heap.size w wr ∧ ∀ q ∈ L, (q.2.1 ≠ 58 ∧ q.2.1 ≠ 5) ∧ Whole wr q.1 q.2.1 q.2.2
section
variable {w wr wr' : World} {L : List (Nat × TypeId × Array Value)} {p bb mb m : Nat} {a : Dm.A}
theorem Kp.old (h : Kp w wr L) (hb : Below wr.heap.size wr wr') : Kp w wr' L := ⟨h.1.trans (hb.mono h.1.size), fun q hq => ⟨(h.2 q hq).1, (h.2 q hq).2.keep (hb.block _ (h.2 q hq).2.lt)⟩⟩
theorem Kp.only (h : Kp w wr L) (hd : Dk wr p bb mb a m) (hp : w.heap.size ≤ p ∧ w.heap.size ≤ bb ∧ w.heap.size ≤ mb) (ho : Only [p, bb, mb] wr wr') : Kp w wr' L := ⟨ho.after h.1 hp, fun q hq => ⟨(h.2 q hq).1, whole_only (h.2 q hq).2 hd (h.2 q hq).1.1 (h.2 q hq).1.2 ho⟩⟩
theorem Kp.add {g : Nat} {t : TypeId} {cs : Array Value} (h : Kp w wr L) (h1 : t ≠ 58 ∧ t ≠ 5) (hw : Whole wr g t cs) : Kp w wr ((g, t, cs) :: L) := ⟨h.1, fun q hq => by
  rcases List.mem_cons.1 hq with rfl | hq
  · exact ⟨h1, hw⟩
  · exact h.2 q hq⟩
theorem Kp.get {g : Nat} {t : TypeId} {cs : Array Value} (h : Kp w wr L) (hq : (g, t, cs) ∈ L) : Whole wr g t cs := (h.2 _ hq).2
theorem Kp.size (h : Kp w wr L) : w.heap.size ≤ wr.heap.size := h.1.size
theorem only_of_grown (k : wr.grownBy wr' (some p)) : Only [p, bb, mb] wr wr' := ⟨k.os, k.tape, k.output, k.size, fun i hi hn => k.block i hi (fun e => hn (by injection e with e; rw [e]; exact List.mem_cons_self ..))⟩
end
theorem t_bt : 41 ≠ 58 ∧ 41 ≠ 5 := by decide
theorem t_bn : 32 ≠ 58 ∧ 32 ≠ 5 := by decide
theorem range_all {w : World} {g : Nat} {t : TypeId} {L : List Value} (h : Whole w g t L.toArray) : w.rangeAt g 0 L := by
  intro j v hv
  rw [h.cell, List.getElem?_toArray, Nat.zero_add]
  exact hv
theorem eq_bt {op : BinOp} {b d : Im.Bt} {C D : Array Value} (hC : KC C b) (hD : KC D d) : (∀ w : World, (binOp .eql 41 (.agg C) (.agg D)).run Tryd.prog w = .ok (.bool (decide (b = d))) w) ∧ (∀ w : World, (binOp .neq 41 (.agg C) (.agg D)).run Tryd.prog w = .ok (.bool (!decide (b = d))) w) := by
  rw [hC.1, hD.1]
  exact ⟨fun w => eqB hC.2.1 hD.2.1 w, fun w => neB hC.2.1 hD.2.1 w⟩
set_option maxHeartbeats 16000000 in
theorem crash_walk (a0 : Option Addr) (len cap : Nat) (bs : List Im.Bt) (b : Im.Bt) (z : Int) (w : World) (hR : Sh.Roots w) (ht : Bts w (· < w.heap.size) a0 len bs) (hb : Bok b) (hz : -9223372036854775808 ≤ z ∧ z ≤ 9223372036854775807) :
    Calls Tryd.prog 6 #[.slice a0 len cap, .agg (bc b).toArray, .int .i64 z] w fun e w' => e = .returned (.bool true) ∧ Below w.heap.size w w' := by
  obtain ⟨fsB, hun⟩ := und_bt
  have hzb := zero_bt
  have hz64 := zero_b
  obtain ⟨C, hC⟩ : ∃ C, (bc b).toArray = C := ⟨_, rfl⟩
  have hkb := kc_of hb
  rw [hC] at hkb ⊢
  have hb0 : Below w.heap.size w (w.alloc (.cells C 41)) := below_alloc w _
  have hw0 := Whole.new w 41 C
  obtain ⟨w0, h0⟩ : ∃ w0, w.alloc (.cells C 41) = w0 := ⟨_, rfl⟩
  rw [h0] at hb0 hw0
  have HA := Lib.hid (awake_any (hR.below hb0 hR.two))
  have HK := Lib.hid (And.intro hkb hb)
  have HT := Lib.hid ht
  have H0 : Hid (w.alloc (.cells C 41) = w0 ∧ Kp w w0 [(w.heap.size, 41, C)]) := Lib.hid ⟨h0, hb0, fun q hq => by obtain rfl := List.mem_singleton.1 hq; exact ⟨t_bt, hw0⟩⟩
  clear hR hb ht hkb hC hb0 hw0 h0 hz
  go_enter Tryd.func6, Tryd.ntmps6
  go_upto_region 1 with fail
  rw [H0.out.1]
  go_wp2_with fail
  refine HA.out.mono ?_
  rintro e w1 ⟨rfl, hb1⟩
  have H1 : Hid (Kp w w1 [(w.heap.size, 41, C)]) := Lib.hid (H0.out.2.old hb1)
  clear hb1 HA H0
  go_wp2_with fail
  refine (new_ok (n := 2) (by omega)).mono ?_
  rintro e w2 ⟨p, bb, mb, rfl, hd, hp, hbb, hmb, hb2⟩
  have HP : Hid (w.heap.size ≤ p ∧ w.heap.size ≤ bb ∧ w.heap.size ≤ mb) := Lib.hid (by have := H1.out.size; exact ⟨by omega, by omega, by omega⟩)
  have H2 : Hid (Dk w2 p bb mb (fresh 2) 2 ∧ Kp w w2 [(w.heap.size, 41, C)]) := Lib.hid ⟨hd, H1.out.old hb2⟩
  clear hd hp hbb hmb hb2 H1
  obtain ⟨w3, h3, k3, b3⟩ := boxedb w2 (D := zbt)
  obtain ⟨G, hG⟩ : ∃ G, w2.heap.size = G := ⟨_, rfl⟩
  have H3 : Hid ((w2.alloc (.cells zbt 41)).setRow w2.heap.size zbt = w3 ∧ Dk w3 p bb mb (fresh 2) 2 ∧ Kp w w3 [(G, 41, zbt), (w.heap.size, 41, C)]) := Lib.hid ⟨h3, H2.out.1.old b3, (H2.out.2.old b3).add t_bt (by rw [← hG]; exact k3)⟩
  have HG := Lib.hid (And.intro hG (show w.heap.size < G from by rw [← hG]; exact (H2.out.2.get (List.mem_cons_self ..)).lt))
  clear h3 k3 b3 hG H2
  go_upto_block 0 with (first | ((with_reducible show wpList _ _ _ ((⟨_, Op.build 41 _, _, _, _, _⟩ : Oper) :: _) _ _); refine wpList_built rfl _ rfl _ rfl _ built_b0 ?_) | ((with_reducible show wpList _ _ _ ((⟨_, Op.store 41 _ _, _, _, _, _⟩ : Oper) :: _) _ _); refine wpList_store_row rfl 41 (.tmp 10) (.tmp 39) rfl w2.heap.size zbt rfl rfl 41 zbt (Whole.new w2 _ _) (KC.info zb_kc) (Eq.trans (b := 35) rfl (KC.size zb_kc).symm) (KC.all zb_kc) ?_; rw [H3.out.1]) | fail)
  rw [HG.out.1]
  go_cut [11, 12, 13, 14, 15, 16] from 40 (fun v11 _ _ _ _ _ wr => ∃ (c : Nat) (was : Im.Bt), c ≤ 10 ∧ v11 = .int .i64 (c : Int) ∧ Hid (∃ A W, Dk wr p bb mb A 2 ∧ A.down = false ∧ Im.Pr (Dm.read A) c was ∧ KC W was ∧ Kp w wr [(G, 41, W), (w.heap.size, 41, C)]))
  case first =>
    go_wp2_with fail
    go_loopw [11, 12, 13, 14, 15, 16] (fun v11 v12 _ _ _ _ wr => ∃ (i c : Nat) (was : Im.Bt), i ≤ len ∧ i ≤ 10 ∧ c ≤ i ∧ v11 = .int .i64 (c : Int) ∧ v12 = .int .i64 (i : Int) ∧ Hid (∃ A W, Dk wr p bb mb A 2 ∧ A.down = false ∧ Im.Pr (Dm.read A) c was ∧ KC W was ∧ Kp w wr [(G, 41, W), (w.heap.size, 41, C)])) (fun _ v12 _ _ _ _ _ => 10 - (intOf v12).toNat)
    case atStart => exact ⟨0, 0, Im.Z, by omega, by omega, by omega, rfl, rfl, Lib.hid ⟨fresh 2, zbt, H3.out.2.1, rfl, (fresh_pr 2 (by omega)).congr (fun m _ => by simp only [Nat.zero_add]), zb_kc, H3.out.2.2⟩⟩
    case round =>
      clear H3
      obtain ⟨i, c, was, hi1, hi2, hci, rfl, rfl, HB0⟩ := hrel
      obtain ⟨A, W, HB⟩ : ∃ A W, Hid (Dk wr p bb mb A 2 ∧ A.down = false ∧ Im.Pr (Dm.read A) c was ∧ KC W was ∧ Kp w wr [(G, 41, W), (w.heap.size, 41, C)]) := by
        obtain ⟨A, W, h⟩ := HB0.out
        exact ⟨A, W, Lib.hid h⟩
      by_cases hlt : i < len
      · by_cases h10 : i < 10
        · have q1 : decide ((i : Int) < (len : Int)) = true := by simp; omega
          have q2 : decide ((i : Int) < 10) = true := by simp; omega
          have q3 : (i : Int) < (len : Int) := by omega
          clear HB0
          rcases HT.out.2.2.2 with h | ⟨g0, off, rfl, hg1, hg2, hrow⟩
          · omega
          obtain ⟨bi, hbi⟩ : ∃ bi, bs[i]? = some bi := ⟨_, List.getElem?_eq_getElem (by rw [HT.out.2.1]; exact hlt)⟩
          have hbk : Bok bi := HT.out.2.2.1 bi (List.mem_of_getElem? hbi)
          obtain ⟨L, hL⟩ : ∃ L, bc bi = L := ⟨_, rfl⟩
          have hkc : KC L.toArray bi := ⟨by rw [← hL], hbk.w⟩
          have hrg := hrow i bi hbi
          rw [hL] at hrg
          have HI := Lib.hid (show (Tryd.prog.info? 41).map (·.size) = some L.length from by rw [← hL, bc_len hbk.w.1]; exact info_boot)
          have HL : Hid (KC L.toArray bi ∧ (∀ w', Below w.heap.size w w' → w'.rangeAt g0 (off + i * 35) L)) := Lib.hid ⟨hkc, fun w' h j v hv => (World.cell?_of_block (h.block g0 hg1)).trans (hrg j v hv)⟩
          clear hbi hbk hL hkc hrg hg1 hg2 hrow
          have HR0 := Lib.hid (HL.out.2 wr HB.out.2.2.2.2.1)
          go_wp2_with (first | ((with_reducible show wpList _ _ _ ((⟨_, Op.load 41 _, _, _, _, _⟩ : Oper) :: _) _ _); refine wpList_load_mid rfl 41 (.tmp 53) rfl g0 (off + i * 35) rfl L _ HR0.out hun rfl HI.out ?_) | fail)
          by_cases hm : Im.May bi
          case neg =>
            refine (ipoint_no HB.out.1 (by omega) HL.out.1 hm).mono ?_
            rintro e w4 ⟨rfl, hb4⟩
            have H4 : Hid (∃ A W, Dk w4 p bb mb A 2 ∧ A.down = false ∧ Im.Pr (Dm.read A) c was ∧ KC W was ∧ Kp w w4 [(G, 41, W), (w.heap.size, 41, C)]) := Lib.hid ⟨A, W, HB.out.1.old hb4, HB.out.2.1, HB.out.2.2.1, HB.out.2.2.2.1, HB.out.2.2.2.2.old hb4⟩
            clear hb4
            go_wp2
            go_roundw
            case rel => exact ⟨i + 1, c, was, by omega, by omega, by omega, rfl, by go_num, H4⟩
            case measure => simp [intOf]; omega
          refine (ipoint_pr HB.out.1 HB.out.2.1 (by omega) HB.out.2.2.1 (by omega) HL.out.1 hm).mono ?_
          rintro e w4 ⟨rfl, A', hd4, hdn4, hpr4, _, ho4⟩
          have H4 : Hid (Dk w4 p bb mb A' 2 ∧ A'.down = false ∧ Im.Pr (Dm.read A') (c + 1) bi ∧ Kp w w4 [(G, 41, W), (w.heap.size, 41, C)]) := Lib.hid ⟨hd4, hdn4, hpr4, HB.out.2.2.2.2.only HB.out.1 HP.out ho4⟩
          clear hd4 hdn4 hpr4 ho4 hm
          go_wp2_with fail
          refine (istart_pr H4.out.1 H4.out.2.1 (by omega) H4.out.2.2.1 (by omega)).mono ?_
          rintro e w5 ⟨D5, rfl, hD5, hb5⟩
          rw [if_neg (by omega)]
          obtain rfl : D5 = L.toArray := by rw [hD5.1, HL.out.1.1]
          obtain ⟨w6, h6, k6, b6⟩ := boxedb w5 (D := L.toArray)
          have hbe6 := hb5.trans (b6.mono hb5.size)
          have H6 : Hid ((w5.alloc (.cells zbt 41)).setRow w5.heap.size L.toArray = w6 ∧ Dk w6 p bb mb A' 2 ∧ Kp w w6 [(w5.heap.size, 41, L.toArray), (G, 41, W), (w.heap.size, 41, C)]) := Lib.hid ⟨h6, H4.out.1.old hbe6, (H4.out.2.2.2.old hbe6).add t_bt k6⟩
          clear h6 k6 b6 hbe6 hb5 hD5
          go_wp2_with (first | ((with_reducible show wpList _ _ _ ((⟨_, Op.store 41 _ _, _, _, _, _⟩ : Oper) :: _) _ _); refine wpList_store_row rfl 41 (.tmp 14) (.tmp 61) rfl w5.heap.size L.toArray rfl rfl 41 zbt (Whole.new w5 _ _) (KC.info HL.out.1) (Eq.trans (b := 35) rfl (KC.size HL.out.1).symm) (KC.all HL.out.1) ?_; rw [H6.out.1]) | fail)
          have HNE : Hid (∀ w : World, (binOp .neq 41 (.agg L.toArray) (.agg L.toArray)).run Tryd.prog w = .ok (.bool false) w) := Lib.hid fun w => by
            have := (eq_bt (op := .neq) HL.out.1 HL.out.1).2 w
            rw [decide_eq_true rfl] at this
            exact this
          have H7 : Hid (Dk w6.drew p bb mb A' 2 ∧ Kp w w6.drew [(w5.heap.size, 41, L.toArray), (G, 41, W), (w.heap.size, 41, C)]) := Lib.hid ⟨H6.out.2.1.keep rfl rfl rfl, ⟨H6.out.2.2.1.os, H6.out.2.2.1.tape, H6.out.2.2.1.output, H6.out.2.2.1.size, H6.out.2.2.1.block⟩, H6.out.2.2.2⟩
          have hS7 : w6.drew.rangeAt w5.heap.size 0 L ∧ w6.drew.rangeAt g0 (off + i * 35) L := ⟨range_all (H7.out.2.get (List.mem_cons_self ..)), HL.out.2 _ H7.out.2.1⟩
          refine wp_region_held_drew (S := fun v => v.rangeAt w5.heap.size 0 L ∧ v.rangeAt g0 (off + i * 35) L) (by kernel_rfl) hS7 (fun hHeld => ?_)
          clear hS7
          generalize w6.drew = w7 at *
          refine wpAnyH_take (i := 0) (v := .int .i64 0) rfl (by kernel_rfl) (by kernel_rfl) (by kernel_rfl) (fun _ _ _ h => h) (Or.inl ⟨by rfl, (by intro w hSw; (try dsimp only at hSw); go_simp)⟩) (by assumption) ?_
          try simp only [Act.put, List.getElem_toArray, List.getElem_cons_zero, List.getElem_cons_succ, List.setIfInBounds_toArray, List.set_cons_zero, List.set_cons_succ]
          refine wpAnyH_take (i := 1) (v := .bool false) rfl (by kernel_rfl) (by kernel_rfl) (by kernel_rfl) (fun _ _ _ h => h) (Or.inl ⟨by rfl, (by intro w hSw; (try dsimp only at hSw); go_simp)⟩) (by assumption) ?_
          try simp only [Act.put, List.getElem_toArray, List.getElem_cons_zero, List.getElem_cons_succ, List.setIfInBounds_toArray, List.set_cons_zero, List.set_cons_succ]
          refine wpAnyH_take (i := 2) (v := .bool false) rfl (by kernel_rfl) (by kernel_rfl) (by kernel_rfl) (fun _ _ _ h => h) (Or.inl ⟨by rfl, (by intro w hSw; (try dsimp only at hSw); go_simp)⟩) (by assumption) ?_
          try simp only [Act.put, List.getElem_toArray, List.getElem_cons_zero, List.getElem_cons_succ, List.setIfInBounds_toArray, List.set_cons_zero, List.set_cons_succ]
          refine wpAnyH_take (i := 3) (v := .agg L.toArray) rfl (by kernel_rfl) (by kernel_rfl) (by kernel_rfl) (fun _ _ _ h => h) (yieldsIf_load_mid (by rfl) 41 _ rfl _ _ rfl L _ (fun w hSw => hSw.1) hun rfl HI.out) (by assumption) ?_
          try simp only [Act.put, List.getElem_toArray, List.getElem_cons_zero, List.getElem_cons_succ, List.setIfInBounds_toArray, List.set_cons_zero, List.set_cons_succ]
          refine wpAnyH_take (i := 4) (v := .slice (some ⟨g0, off, none⟩) len cap) rfl (by kernel_rfl) (by kernel_rfl) (by kernel_rfl) (fun _ _ _ h => h) (Or.inl ⟨by rfl, (by intro w hSw; (try dsimp only at hSw); go_simp)⟩) (by assumption) ?_
          try simp only [Act.put, List.getElem_toArray, List.getElem_cons_zero, List.getElem_cons_succ, List.setIfInBounds_toArray, List.set_cons_zero, List.set_cons_succ]
          refine wpAnyH_take (i := 5) (v := .int .i64 (i : Int)) rfl (by kernel_rfl) (by kernel_rfl) (by kernel_rfl) (fun _ _ _ h => h) (Or.inl ⟨by rfl, (by intro w hSw; (try dsimp only at hSw); go_simp)⟩) (by assumption) ?_
          try simp only [Act.put, List.getElem_toArray, List.getElem_cons_zero, List.getElem_cons_succ, List.setIfInBounds_toArray, List.set_cons_zero, List.set_cons_succ]
          refine wpAnyH_take (i := 6) (v := .pointer (some ⟨g0, off + i * 35, none⟩)) rfl (by kernel_rfl) (by kernel_rfl) (by kernel_rfl) (fun _ _ _ h => h) (Or.inl ⟨by rfl, (by intro w hSw; (try dsimp only at hSw); go_simp)⟩) (by assumption) ?_
          try simp only [Act.put, List.getElem_toArray, List.getElem_cons_zero, List.getElem_cons_succ, List.setIfInBounds_toArray, List.set_cons_zero, List.set_cons_succ]
          refine wpAnyH_take (i := 7) (v := .agg L.toArray) rfl (by kernel_rfl) (by kernel_rfl) (by kernel_rfl) (fun _ _ _ h => h) (yieldsIf_load_mid (by rfl) 41 _ rfl _ _ rfl L _ (fun w hSw => hSw.2) hun rfl HI.out) (by assumption) ?_
          try simp only [Act.put, List.getElem_toArray, List.getElem_cons_zero, List.getElem_cons_succ, List.setIfInBounds_toArray, List.set_cons_zero, List.set_cons_succ]
          refine wpAnyH_take (i := 8) (v := .bool false) rfl (by kernel_rfl) (by kernel_rfl) (by kernel_rfl) (fun _ _ _ h => h) (yields_cmpB (by rfl) .neq (.tmp 67) (.tmp 71) _ rfl L.toArray L.toArray rfl rfl false HNE.out) (by assumption) ?_
          try simp only [Act.put, List.getElem_toArray, List.getElem_cons_zero, List.getElem_cons_succ, List.setIfInBounds_toArray, List.set_cons_zero, List.set_cons_succ]
          refine wpAnyH_take (i := 9) (v := .bool false) rfl (by kernel_rfl) (by kernel_rfl) (by kernel_rfl) (fun _ _ _ h => h) (Or.inl ⟨by rfl, (by intro w hSw; (try dsimp only at hSw); go_simp)⟩) (by assumption) ?_
          try simp only [Act.put, List.getElem_toArray, List.getElem_cons_zero, List.getElem_cons_succ, List.setIfInBounds_toArray, List.set_cons_zero, List.set_cons_succ]
          refine wpAnyH_take (i := 10) (v := .bool false) rfl (by kernel_rfl) (by kernel_rfl) (by kernel_rfl) (fun _ _ _ h => h) (Or.inl ⟨by rfl, (by intro w hSw; (try dsimp only at hSw); go_simp)⟩) (by assumption) ?_
          try simp only [Act.put, List.getElem_toArray, List.getElem_cons_zero, List.getElem_cons_succ, List.setIfInBounds_toArray, List.set_cons_zero, List.set_cons_succ]
          refine wpAnyH_take (i := 11) (v := .int .i64 ((c + 1 : Nat) : Int)) rfl (by kernel_rfl) (by kernel_rfl) (by kernel_rfl) (fun _ _ _ h => h) (Or.inl ⟨by rfl, (by intro w hSw; (try dsimp only at hSw); go_simp)⟩) (by assumption) ?_
          try simp only [Act.put, List.getElem_toArray, List.getElem_cons_zero, List.getElem_cons_succ, List.setIfInBounds_toArray, List.set_cons_zero, List.set_cons_succ]
          refine wpAnyH_take (i := 12) (v := .int .i64 (c : Int)) rfl (by kernel_rfl) (by kernel_rfl) (by kernel_rfl) (fun _ _ _ h => h) (Or.inl ⟨by rfl, (by intro w hSw; (try dsimp only at hSw); go_simp)⟩) (by assumption) ?_
          try simp only [Act.put, List.getElem_toArray, List.getElem_cons_zero, List.getElem_cons_succ, List.setIfInBounds_toArray, List.set_cons_zero, List.set_cons_succ]
          have ew : IntKind.i64.wrap ((c : Int) + 1) = (c : Int) + 1 := IntWalk.i64_in _ (by omega)
          refine wpAnyH_take (i := 13) (v := .int .i64 ((c : Int) + 1)) rfl (by kernel_rfl) (by kernel_rfl) (by kernel_rfl) (fun _ _ _ h => h) (Or.inl ⟨by rfl, (by intro w hSw; (try dsimp only at hSw); go_simp; (try exact ew))⟩) (by assumption) ?_
          try simp only [Act.put, List.getElem_toArray, List.getElem_cons_zero, List.getElem_cons_succ, List.setIfInBounds_toArray, List.set_cons_zero, List.set_cons_succ]
          refine wpAnyH_take (i := 14) (v := .bool false) rfl (by kernel_rfl) (by kernel_rfl) (by kernel_rfl) (fun _ _ _ h => h) (Or.inl ⟨by rfl, (by intro w hSw; (try dsimp only at hSw); go_simp)⟩) (by assumption) ?_
          try simp only [Act.put, List.getElem_toArray, List.getElem_cons_zero, List.getElem_cons_succ, List.setIfInBounds_toArray, List.set_cons_zero, List.set_cons_succ]
          refine wpAnyH_take (i := 15) (v := .bool false) rfl (by kernel_rfl) (by kernel_rfl) (by kernel_rfl) (fun _ _ _ h => h) (Or.inl ⟨by rfl, (by intro w hSw; (try dsimp only at hSw); go_simp)⟩) (by assumption) ?_
          try simp only [Act.put, List.getElem_toArray, List.getElem_cons_zero, List.getElem_cons_succ, List.setIfInBounds_toArray, List.set_cons_zero, List.set_cons_succ]
          refine wpAnyH_done (by kernel_rfl) ?_ _
          clear hHeld
          go_wp2_with (first | ((with_reducible show wpList _ _ _ ((⟨_, Op.load 41 _, _, _, _, _⟩ : Oper) :: _) _ _); refine wpList_load_row rfl 41 (.tmp 14) rfl w5.heap.size rfl 41 L.toArray (0, 0) _ (H7.out.2.get (List.mem_cons_self ..)) hun rfl (KC.info HL.out.1) ?_) | ((with_reducible show wpList _ _ _ ((⟨_, Op.store 41 _ _, _, _, _, _⟩ : Oper) :: _) _ _); refine wpList_store_row rfl 41 (.tmp 10) (.tmp 80) rfl G L.toArray rfl rfl 41 W (H7.out.2.get (List.mem_cons_of_mem _ (List.mem_cons_self ..))) (KC.info HL.out.1) (Eq.trans (b := 35) HB.out.2.2.2.1.size (KC.size HL.out.1).symm) (KC.all HL.out.1) ?_) | fail)
          have hGf := dk_far H7.out.1 t_bt.1 t_bt.2 (H7.out.2.get (List.mem_cons_of_mem _ (List.mem_cons_self ..)))
          have hCf : w.heap.size ≠ G := Nat.ne_of_lt HG.out.2
          have H8 : Hid (Dk (w7.setRow G L.toArray) p bb mb A' 2 ∧ Kp w (w7.setRow G L.toArray) [(G, 41, L.toArray), (w.heap.size, 41, C)]) := Lib.hid ⟨H7.out.1.keep (setRow_other _ _ _ _ (fun e => hGf (by simp [e]))) (setRow_other _ _ _ _ (fun e => hGf (by simp [e]))) (setRow_other _ _ _ _ (fun e => hGf (by simp [e]))), below_row H7.out.2.1 (Nat.le_of_lt HG.out.2) _, fun q hq => by
            rcases List.mem_cons.1 hq with rfl | hq
            · exact ⟨t_bt, (H7.out.2.get (List.mem_cons_of_mem _ (List.mem_cons_self ..))).row _⟩
            · obtain rfl := List.mem_singleton.1 hq
              exact ⟨t_bt, (H7.out.2.get (List.mem_cons_of_mem _ (List.mem_cons_of_mem _ (List.mem_cons_self ..)))).rowFar hCf _⟩⟩
          clear hGf hCf ew
          go_roundw
          case rel => exact ⟨i + 1, c + 1, bi, by omega, by omega, by omega, by go_num, by go_num, Lib.hid ⟨A', L.toArray, H8.out.1, H4.out.2.1, H4.out.2.2.1, HL.out.1, H8.out.2⟩⟩
          case measure => simp [intOf]; omega
        · have q1 : decide ((i : Int) < (len : Int)) = true := by simp; omega
          have q2 : decide ((i : Int) < 10) = false := by simp; omega
          go_wp2
          go_meet
          case rel => exact ⟨c, was, by omega, rfl, HB0⟩
      · have q1 : decide ((i : Int) < (len : Int)) = false := by simp; omega
        go_wp2
        go_meet
        case rel => exact ⟨c, was, by omega, rfl, HB0⟩
  case rest =>
    obtain ⟨c, was, hc10, rfl, HB0⟩ := hcut
    obtain ⟨A, W, HB⟩ : ∃ A W, Hid (Dk wc p bb mb A 2 ∧ A.down = false ∧ Im.Pr (Dm.read A) c was ∧ KC W was ∧ Kp w wc [(G, 41, W), (w.heap.size, 41, C)]) := by
      obtain ⟨A, W, h⟩ := HB0.out
      exact ⟨A, W, Lib.hid h⟩
    clear HB0 H3
    by_cases hc0 : c = 0
    · subst hc0
      go_wp2
      go_ret
      exact ⟨rfl, HB.out.2.2.2.2.1⟩
    have d0 : ((c : Int) == 0) = false := by simp; omega
    have HOK := Lib.hid HB.out.1.ok
    go_wp2_with fail
    refine (read_at HB.out.1 HB.out.2.1 (by omega) (by omega)).mono ?_
    rintro e w4 ⟨rfl, hb4⟩
    rw [show ((0 : Int).toNat) = 0 from rfl]
    obtain ⟨X, hX⟩ : ∃ X, Dm.read A 0 = X := ⟨_, rfl⟩
    have HX : Hid (Dm.read A 0 = X ∧ X.length = 64 ∧ Byt X) := Lib.hid ⟨hX, by rw [← hX]; exact (Dm.read_len HB.out.1.ok (by omega)).1, by rw [← hX]; exact (Dm.read_len HB.out.1.ok (by omega)).2⟩
    rw [hX]
    clear hX
    obtain ⟨w5, h5, k5, b5⟩ := boxed w4 X
    have hbe5 := hb4.trans (b5.mono hb4.size)
    have H5 : Hid ((w4.alloc (.cells zb 32)).setRow w4.heap.size (nums X).toArray = w5 ∧ Dk w5 p bb mb A 2 ∧ Kp w w5 [(w4.heap.size, 32, (nums X).toArray), (G, 41, W), (w.heap.size, 41, C)]) := Lib.hid ⟨h5, HB.out.1.old hbe5, (HB.out.2.2.2.2.old hbe5).add t_bn k5⟩
    clear h5 k5 b5 hbe5 hb4
    go_wp2_with (first | ((with_reducible show wpList _ _ _ ((⟨_, Op.store 32 _ _, _, _, _, _⟩ : Oper) :: _) _ _); refine wpList_store_row rfl 32 (.tmp 17) (.tmp 87) rfl w4.heap.size (nums X).toArray rfl rfl 32 zb (Whole.new w4 _ _) (info_bn HX.out.2.1) (size_bn HX.out.2.1) (all_nums _) ?_; rw [H5.out.1]) | fail)
    refine (read_at H5.out.2.1 HB.out.2.1 (by omega) (by omega)).mono ?_
    rintro e w6 ⟨rfl, hb6⟩
    rw [show ((1 : Int).toNat) = 1 from rfl]
    obtain ⟨Y, hY⟩ : ∃ Y, Dm.read A 1 = Y := ⟨_, rfl⟩
    have HY : Hid (Dm.read A 1 = Y ∧ Y.length = 64 ∧ Byt Y) := Lib.hid ⟨hY, by rw [← hY]; exact (Dm.read_len HB.out.1.ok (by omega)).1, by rw [← hY]; exact (Dm.read_len HB.out.1.ok (by omega)).2⟩
    rw [hY]
    clear hY
    obtain ⟨w7, h7, k7, b7⟩ := boxed w6 Y
    have hbe7 := hb6.trans (b7.mono hb6.size)
    have H7 : Hid ((w6.alloc (.cells zb 32)).setRow w6.heap.size (nums Y).toArray = w7 ∧ Dk w7 p bb mb A 2 ∧ Kp w w7 [(w6.heap.size, 32, (nums Y).toArray), (w4.heap.size, 32, (nums X).toArray), (G, 41, W), (w.heap.size, 41, C)]) := Lib.hid ⟨h7, H5.out.2.1.old hbe7, (H5.out.2.2.old hbe7).add t_bn k7⟩
    clear h7 k7 b7 hbe7 hb6
    go_wp2_with (first | ((with_reducible show wpList _ _ _ ((⟨_, Op.store 32 _ _, _, _, _, _⟩ : Oper) :: _) _ _); refine wpList_store_row rfl 32 (.tmp 19) (.tmp 92) rfl w6.heap.size (nums Y).toArray rfl rfl 32 zb (Whole.new w6 _ _) (info_bn HY.out.2.1) (size_bn HY.out.2.1) (all_nums _) ?_; rw [H7.out.1]) | ((with_reducible show wpList _ _ _ ((⟨_, Op.load 41 _, _, _, _, _⟩ : Oper) :: _) _ _); refine wpList_load_row rfl 41 (.tmp 4) rfl w.heap.size rfl 41 C (0, 0) _ (H7.out.2.2.get (by simp)) hun rfl (KC.info HK.out.1) ?_) | fail)
    by_cases hm : Im.May b
    case neg =>
      refine (ipoint_no H7.out.2.1 (by omega) HK.out.1 hm).mono ?_
      rintro e w8 ⟨rfl, hb8⟩
      have H8 := Lib.hid (H7.out.2.2.old hb8)
      clear hb8
      go_wp2
      go_ret
      exact ⟨rfl, H8.out.1⟩
    refine (ipoint_pr H7.out.2.1 HB.out.2.1 (by omega) HB.out.2.2.1 (by omega) HK.out.1 hm).mono ?_
    rintro e w8 ⟨rfl, A', hd8, hdn8, hpr8, hrd8, ho8⟩
    have H8 : Hid (Dk w8 p bb mb A' 2 ∧ A'.down = false ∧ Kp w w8 [(w6.heap.size, 32, (nums Y).toArray), (w4.heap.size, 32, (nums X).toArray), (G, 41, W), (w.heap.size, 41, C)]) := Lib.hid ⟨hd8, hdn8, H7.out.2.2.only H7.out.2.1 HP.out ho8⟩
    have HM : Hid (Im.May b ∧ (∀ m, Dm.read A' m = if m = 1 - (c + 1) % 2 then Im.blkOf b (c + 1) else Dm.read A m)) := Lib.hid ⟨hm, hrd8⟩
    clear hd8 hdn8 hpr8 hrd8 ho8 hm
    go_wp2_with fail
    refine (read_at H8.out.1 H8.out.2.1 (by omega) (by omega)).mono ?_
    rintro e w9 ⟨rfl, hb9⟩
    rw [show ((0 : Int).toNat) = 0 from rfl]
    obtain ⟨U, hU⟩ : ∃ U, Dm.read A' 0 = U := ⟨_, rfl⟩
    have HU : Hid (Dm.read A' 0 = U ∧ U.length = 64 ∧ Byt U) := Lib.hid ⟨hU, by rw [← hU]; exact (Dm.read_len H8.out.1.ok (by omega)).1, by rw [← hU]; exact (Dm.read_len H8.out.1.ok (by omega)).2⟩
    rw [hU]
    clear hU
    obtain ⟨w10, h10, k10, b10⟩ := boxed w9 U
    have hbe10 := hb9.trans (b10.mono hb9.size)
    have H10 : Hid ((w9.alloc (.cells zb 32)).setRow w9.heap.size (nums U).toArray = w10 ∧ Dk w10 p bb mb A' 2 ∧ Kp w w10 [(w9.heap.size, 32, (nums U).toArray), (w6.heap.size, 32, (nums Y).toArray), (w4.heap.size, 32, (nums X).toArray), (G, 41, W), (w.heap.size, 41, C)]) := Lib.hid ⟨h10, H8.out.1.old hbe10, (H8.out.2.2.old hbe10).add t_bn k10⟩
    clear h10 k10 b10 hbe10 hb9
    go_wp2_with (first | ((with_reducible show wpList _ _ _ ((⟨_, Op.store 32 _ _, _, _, _, _⟩ : Oper) :: _) _ _); refine wpList_store_row rfl 32 (.tmp 21) (.tmp 101) rfl w9.heap.size (nums U).toArray rfl rfl 32 zb (Whole.new w9 _ _) (info_bn HU.out.2.1) (size_bn HU.out.2.1) (all_nums _) ?_; rw [H10.out.1]) | fail)
    refine (read_at H10.out.2.1 H8.out.2.1 (by omega) (by omega)).mono ?_
    rintro e w11 ⟨rfl, hb11⟩
    rw [show ((1 : Int).toNat) = 1 from rfl]
    obtain ⟨V, hV⟩ : ∃ V, Dm.read A' 1 = V := ⟨_, rfl⟩
    have HV : Hid (Dm.read A' 1 = V ∧ V.length = 64 ∧ Byt V) := Lib.hid ⟨hV, by rw [← hV]; exact (Dm.read_len H8.out.1.ok (by omega)).1, by rw [← hV]; exact (Dm.read_len H8.out.1.ok (by omega)).2⟩
    rw [hV]
    clear hV
    obtain ⟨w12, h12, k12, b12⟩ := boxed w11 V
    have hbe12 := hb11.trans (b12.mono hb11.size)
    obtain ⟨LL, hLL⟩ : ∃ LL, [(w11.heap.size, 32, (nums V).toArray), (w9.heap.size, 32, (nums U).toArray), (w6.heap.size, 32, (nums Y).toArray), (w4.heap.size, 32, (nums X).toArray), (G, 41, W), (w.heap.size, 41, C)] = LL := ⟨_, rfl⟩
    have HLL : Hid (((w11.heap.size, 32, (nums V).toArray) ∈ LL ∧ (w9.heap.size, 32, (nums U).toArray) ∈ LL ∧ (w6.heap.size, 32, (nums Y).toArray) ∈ LL ∧ (w4.heap.size, 32, (nums X).toArray) ∈ LL) ∧ (G, 41, W) ∈ LL ∧ (w.heap.size, 41, C) ∈ LL) := Lib.hid (by subst hLL; simp)
    have H12 : Hid ((w11.alloc (.cells zb 32)).setRow w11.heap.size (nums V).toArray = w12 ∧ Kp w w12 LL) := Lib.hid ⟨h12, by rw [← hLL]; exact (H10.out.2.2.old hbe12).add t_bn k12⟩
    clear h12 k12 b12 hbe12 hb11 hLL
    go_wp2_with (first | ((with_reducible show wpList _ _ _ ((⟨_, Op.store 32 _ _, _, _, _, _⟩ : Oper) :: _) _ _); refine wpList_store_row rfl 32 (.tmp 23) (.tmp 106) rfl w11.heap.size (nums V).toArray rfl rfl 32 zb (Whole.new w11 _ _) (info_bn HV.out.2.1) (size_bn HV.out.2.1) (all_nums _) ?_; rw [H12.out.1]) | fail)
    refine (new_ok (n := 2) (by omega)).mono ?_
    rintro e w13 ⟨p2, bb2, mb2, rfl, hd13, hp13, hbb13, hmb13, hb13⟩
    have HP2 : Hid (w.heap.size ≤ p2 ∧ w.heap.size ≤ bb2 ∧ w.heap.size ≤ mb2) := Lib.hid (by have := H12.out.2.size; exact ⟨by omega, by omega, by omega⟩)
    have H13 : Hid (Dk w13 p2 bb2 mb2 (fresh 2) 2 ∧ Kp w w13 LL) := Lib.hid ⟨hd13, H12.out.2.old hb13⟩
    clear hd13 hp13 hbb13 hmb13 hb13
    go_wp2_with (first | ((with_reducible show wpList _ _ _ ((⟨_, Op.load 32 _, _, _, _, _⟩ : Oper) :: _) _ _); refine wpList_load_row rfl 32 (.tmp 17) rfl w4.heap.size rfl 32 (nums X).toArray (0, 0) _ (H13.out.2.get HLL.out.1.2.2.2) und_b rfl (info_bn HX.out.2.1) ?_) | fail)
    refine (write_at H13.out.1 rfl (by omega) (by omega) HX.out.2.1 HX.out.2.2).mono ?_
    rintro e w14 ⟨rfl, hd14, ho14⟩
    rw [show ((0 : Int).toNat) = 0 from rfl] at hd14
    have H14 : Hid (Dk w14 p2 bb2 mb2 (Dm.write (fresh 2) 0 X) 2 ∧ Kp w w14 LL) := Lib.hid ⟨hd14, H13.out.2.only H13.out.1 HP2.out ho14⟩
    clear hd14 ho14
    go_wp2_with (first | ((with_reducible show wpList _ _ _ ((⟨_, Op.load 32 _, _, _, _, _⟩ : Oper) :: _) _ _); refine wpList_load_row rfl 32 (.tmp 19) rfl w6.heap.size rfl 32 (nums Y).toArray (0, 0) _ (H14.out.2.get HLL.out.1.2.2.1) und_b rfl (info_bn HY.out.2.1) ?_) | fail)
    refine (write_at H14.out.1 rfl (by omega) (by omega) HY.out.2.1 HY.out.2.2).mono ?_
    rintro e w15 ⟨rfl, hd15, ho15⟩
    rw [show ((1 : Int).toNat) = 1 from rfl] at hd15
    have H15 : Hid (Dk w15 p2 bb2 mb2 (Dm.write (Dm.write (fresh 2) 0 X) 1 Y) 2 ∧ Kp w w15 LL) := Lib.hid ⟨hd15, H14.out.2.only H14.out.1 HP2.out ho15⟩
    clear hd15 ho15
    go_wp2_with fail
    refine (flush_any H15.out.1 rfl).mono ?_
    rintro e w16 ⟨rfl, hd16, ho16⟩
    obtain ⟨A2, H16⟩ : ∃ A2, Hid (Dk w16 p2 bb2 mb2 A2 2 ∧ A2.down = false ∧ (Dm.blk A2.last 0 = X ∧ Dm.blk A2.last 1 = Y ∧ Dm.read A2 0 = X ∧ Dm.read A2 1 = Y) ∧ Kp w w16 LL) := by
      refine ⟨_, Lib.hid ⟨hd16, rfl, ?_, H15.out.2.only H15.out.1 HP2.out ho16⟩⟩
      have hb : ∀ m, Dm.blk (Dm.flush (Dm.write (Dm.write (fresh 2) 0 X) 1 Y)).last m = Dm.read (Dm.write (Dm.write (fresh 2) 0 X) 1 Y) m := fun m => (Dm.now_get H15.out.1.ok).2.2 m
      have hr := read_flush H15.out.1.ok
      have e0 : Dm.read (Dm.write (Dm.write (fresh 2) 0 X) 1 Y) 0 = X := by rw [Dm.read_write, if_neg (by omega), Dm.read_write, if_pos rfl]
      have e1 : Dm.read (Dm.write (Dm.write (fresh 2) 0 X) 1 Y) 1 = Y := by rw [Dm.read_write, if_pos rfl]
      exact ⟨by rw [hb, e0], by rw [hb, e1], by rw [hr, e0], by rw [hr, e1]⟩
    clear hd16 ho16 hz64
    have hnq := neq64 U X HU.out.2.1 HX.out.2.1
    obtain ⟨r, hr⟩ : ∃ r, decide (U = X) = r := ⟨_, rfl⟩
    rw [hr] at hnq
    have HRR := Lib.hid hr
    clear hr
    go_upto_if 122 with (first | ((with_reducible show wpList _ _ _ ((⟨_, Op.load 32 _, _, _, _, _⟩ : Oper) :: _) _ _); refine wpList_load_row rfl 32 (.tmp 21) rfl w9.heap.size rfl 32 (nums U).toArray (0, 0) _ (H16.out.2.2.2.get HLL.out.1.2.1) und_b rfl (info_bn HU.out.2.1) ?_) | ((with_reducible show wpList _ _ _ ((⟨_, Op.load 32 _, _, _, _, _⟩ : Oper) :: _) _ _); refine wpList_load_row rfl 32 (.tmp 17) rfl w4.heap.size rfl 32 (nums X).toArray (0, 0) _ (H16.out.2.2.2.get HLL.out.1.2.2.2) und_b rfl (info_bn HX.out.2.1) ?_) | fail)
    clear hnq
    go_cut [25] (fun v wx => v = .pointer (some ⟨p2, 0, none⟩) ∧ Hid (∃ A3, Dk wx p2 bb2 mb2 A3 2 ∧ A3.down = false ∧ (Dm.blk A3.last 0 = X ∧ Dm.blk A3.last 1 = Y ∧ Dm.read A3 0 = U ∧ Dm.read A3 1 = Y) ∧ Kp w wx LL))
    case first =>
      cases r with
      | true =>
        have hux : U = X := of_decide_eq_true HRR.out
        have H17 : Hid (∃ A3, Dk w16 p2 bb2 mb2 A3 2 ∧ A3.down = false ∧ (Dm.blk A3.last 0 = X ∧ Dm.blk A3.last 1 = Y ∧ Dm.read A3 0 = U ∧ Dm.read A3 1 = Y) ∧ Kp w w16 LL) := Lib.hid ⟨A2, H16.out.1, H16.out.2.1, ⟨H16.out.2.2.1.1, H16.out.2.2.1.2.1, by rw [hux]; exact H16.out.2.2.1.2.2.1, H16.out.2.2.1.2.2.2⟩, H16.out.2.2.2⟩
        clear hux
        go_wp2_with fail
        go_meet
        case rel => exact ⟨rfl, H17⟩
      | false =>
        go_wp2_with (first | ((with_reducible show wpList _ _ _ ((⟨_, Op.load 32 _, _, _, _, _⟩ : Oper) :: _) _ _); refine wpList_load_row rfl 32 (.tmp 21) rfl w9.heap.size rfl 32 (nums U).toArray (0, 0) _ (H16.out.2.2.2.get HLL.out.1.2.1) und_b rfl (info_bn HU.out.2.1) ?_) | fail)
        refine (write_at H16.out.1 H16.out.2.1 (by omega) (by omega) HU.out.2.1 HU.out.2.2).mono ?_
        rintro e w17 ⟨rfl, hd17, ho17⟩
        rw [show ((0 : Int).toNat) = 0 from rfl] at hd17
        have H17 : Hid (∃ A3, Dk w17 p2 bb2 mb2 A3 2 ∧ A3.down = false ∧ (Dm.blk A3.last 0 = X ∧ Dm.blk A3.last 1 = Y ∧ Dm.read A3 0 = U ∧ Dm.read A3 1 = Y) ∧ Kp w w17 LL) := Lib.hid ⟨_, hd17, H16.out.2.1, ⟨H16.out.2.2.1.1, H16.out.2.2.1.2.1, by rw [Dm.read_write, if_pos rfl], by rw [Dm.read_write, if_neg (by omega)]; exact H16.out.2.2.1.2.2.2⟩, H16.out.2.2.2.only H16.out.1 HP2.out ho17⟩
        clear hd17 ho17
        go_wp2
        go_meet
        case rel => exact ⟨rfl, H17⟩
    case rest =>
    obtain ⟨rfl, HC0⟩ := hcut
    obtain ⟨w18, hw18⟩ : ∃ w18, w18 = wc := ⟨_, rfl⟩
    subst hw18
    obtain ⟨A3, HC⟩ : ∃ A3, Hid (Dk w18 p2 bb2 mb2 A3 2 ∧ A3.down = false ∧ (Dm.blk A3.last 0 = X ∧ Dm.blk A3.last 1 = Y ∧ Dm.read A3 0 = U ∧ Dm.read A3 1 = Y) ∧ Kp w w18 LL) := by
      obtain ⟨A3, h⟩ := HC0.out
      exact ⟨A3, Lib.hid h⟩
    clear HC0 H16 HRR
    have hnq := neq64 V Y HV.out.2.1 HY.out.2.1
    obtain ⟨r2, hr⟩ : ∃ r, decide (V = Y) = r := ⟨_, rfl⟩
    rw [hr] at hnq
    have HRR := Lib.hid hr
    clear hr
    go_upto_if 128 with (first | ((with_reducible show wpList _ _ _ ((⟨_, Op.load 32 _, _, _, _, _⟩ : Oper) :: _) _ _); refine wpList_load_row rfl 32 (.tmp 23) rfl w11.heap.size rfl 32 (nums V).toArray (0, 0) _ (HC.out.2.2.2.get HLL.out.1.1) und_b rfl (info_bn HV.out.2.1) ?_) | ((with_reducible show wpList _ _ _ ((⟨_, Op.load 32 _, _, _, _, _⟩ : Oper) :: _) _ _); refine wpList_load_row rfl 32 (.tmp 19) rfl w6.heap.size rfl 32 (nums Y).toArray (0, 0) _ (HC.out.2.2.2.get HLL.out.1.2.2.1) und_b rfl (info_bn HY.out.2.1) ?_) | fail)
    clear hnq
    go_cut [25] (fun v wx => v = .pointer (some ⟨p2, 0, none⟩) ∧ Hid (∃ A4, Dk wx p2 bb2 mb2 A4 2 ∧ A4.down = false ∧ (Dm.blk A4.last 0 = X ∧ Dm.blk A4.last 1 = Y ∧ Dm.read A4 0 = U ∧ Dm.read A4 1 = V) ∧ Kp w wx LL))
    case first =>
      cases r2 with
      | true =>
        have hux : V = Y := of_decide_eq_true HRR.out
        have H17 : Hid (∃ A3, Dk w18 p2 bb2 mb2 A3 2 ∧ A3.down = false ∧ (Dm.blk A3.last 0 = X ∧ Dm.blk A3.last 1 = Y ∧ Dm.read A3 0 = U ∧ Dm.read A3 1 = V) ∧ Kp w w18 LL) := Lib.hid ⟨A3, HC.out.1, HC.out.2.1, ⟨HC.out.2.2.1.1, HC.out.2.2.1.2.1, HC.out.2.2.1.2.2.1, by rw [hux]; exact HC.out.2.2.1.2.2.2⟩, HC.out.2.2.2⟩
        clear hux
        go_wp2_with fail
        go_meet
        case rel => exact ⟨rfl, H17⟩
      | false =>
        go_wp2_with (first | ((with_reducible show wpList _ _ _ ((⟨_, Op.load 32 _, _, _, _, _⟩ : Oper) :: _) _ _); refine wpList_load_row rfl 32 (.tmp 23) rfl w11.heap.size rfl 32 (nums V).toArray (0, 0) _ (HC.out.2.2.2.get HLL.out.1.1) und_b rfl (info_bn HV.out.2.1) ?_) | fail)
        refine (write_at HC.out.1 HC.out.2.1 (by omega) (by omega) HV.out.2.1 HV.out.2.2).mono ?_
        rintro e w17 ⟨rfl, hd17, ho17⟩
        rw [show ((1 : Int).toNat) = 1 from rfl] at hd17
        have H17 : Hid (∃ A3, Dk w17 p2 bb2 mb2 A3 2 ∧ A3.down = false ∧ (Dm.blk A3.last 0 = X ∧ Dm.blk A3.last 1 = Y ∧ Dm.read A3 0 = U ∧ Dm.read A3 1 = V) ∧ Kp w w17 LL) := Lib.hid ⟨_, hd17, HC.out.2.1, ⟨HC.out.2.2.1.1, HC.out.2.2.1.2.1, by rw [Dm.read_write, if_neg (by omega)]; exact HC.out.2.2.1.2.2.1, by rw [Dm.read_write, if_pos rfl]⟩, HC.out.2.2.2.only HC.out.1 HP2.out ho17⟩
        clear hd17 ho17
        go_wp2
        go_meet
        case rel => exact ⟨rfl, H17⟩
    case rest =>
    obtain ⟨rfl, HC0⟩ := hcut
    obtain ⟨w19, hw19⟩ : ∃ w19, w19 = wc := ⟨_, rfl⟩
    subst hw19
    obtain ⟨A4, H19⟩ : ∃ A4, Hid (Dk w19 p2 bb2 mb2 A4 2 ∧ A4.down = false ∧ (Dm.blk A4.last 0 = X ∧ Dm.blk A4.last 1 = Y ∧ Dm.read A4 0 = U ∧ Dm.read A4 1 = V) ∧ Kp w w19 LL) := by
      obtain ⟨A4, h⟩ := HC0.out
      exact ⟨A4, Lib.hid h⟩
    clear HC0 HC HRR
    go_wp2_with fail
    have hb20 := below_alloc w19 (.cells #[.int .i64 z] 3)
    have hit := its_one w19 z (S := fun b => b ≠ p2 ∧ b ≠ bb2 ∧ b ≠ mb2) (by have h1 := H19.out.1.cells.lt; have h2 := H19.out.1.bytes.lt; have h3 := H19.out.1.map.lt; exact ⟨by omega, by omega, by omega⟩)
    have H20 : Hid (Dk (w19.alloc (.cells #[.int .i64 z] 3)) p2 bb2 mb2 A4 2 ∧ Kp w (w19.alloc (.cells #[.int .i64 z] 3)) LL) := Lib.hid ⟨H19.out.1.old hb20, H19.out.2.2.2.old hb20⟩
    clear hb20
    generalize w19.alloc (.cells #[.int .i64 z] 3) = w20 at *
    generalize w19.heap.size = gi at *
    refine (crash_any H20.out.1 H19.out.2.1 hit (by unfold maxLen; omega)).mono ?_
    rintro e w21 ⟨rfl, hd21, ho21⟩
    have H21 : Hid (Dk w21 p2 bb2 mb2 (Dm.crash A4 [z]) 2 ∧ Kp w w21 LL) := Lib.hid ⟨hd21, H20.out.2.only H20.out.1 HP2.out ho21⟩
    clear hd21 ho21 hit
    go_wp2_with fail
    refine (start_any H21.out.1).mono ?_
    rintro e w22 ⟨rfl, hd22, ho22, _⟩
    have H22 : Hid (Dk w22 p2 bb2 mb2 (Dm.start (Dm.crash A4 [z])) 2 ∧ Kp w w22 LL) := Lib.hid ⟨hd22, H21.out.2.only H21.out.1 HP2.out (only_of_grown ho22)⟩
    clear hd22 ho22
    have hpk : Im.pk (fun i => Dm.read (Dm.start (Dm.crash A4 [z])) (0 + i)) 2 = (was, c) ∨ Im.pk (fun i => Dm.read (Dm.start (Dm.crash A4 [z])) (0 + i)) 2 = (b, c + 1) := by
      have hk : ∀ k, k < 2 → Dm.read A4 k = Dm.read A' k ∧ Dm.blk A4.last k = Dm.read A k := fun k hk => by
        rcases (show k = 0 ∨ k = 1 by omega) with rfl | rfl
        · exact ⟨by rw [H19.out.2.2.1.2.2.1, HU.out.1], by rw [H19.out.2.2.1.1, HX.out.1]⟩
        · exact ⟨by rw [H19.out.2.2.1.2.2.2, HV.out.1], by rw [H19.out.2.2.1.2.1, HY.out.1]⟩
      obtain ⟨m1, hm1, e1⟩ := crash_read H19.out.1.ok (k := 1 - (c + 1) % 2) (by omega) [z]
      obtain ⟨m2, hm2, e2⟩ := crash_read H19.out.1.ok (k := 1 - c % 2) (by omega) [z]
      rw [(Dm.now_get H19.out.1.ok).2.2, (hk _ (by omega)).1, (hk _ (by omega)).2, HM.out.2, if_pos rfl] at e1
      rw [(Dm.now_get H19.out.1.ok).2.2, (hk _ (by omega)).1, (hk _ (by omega)).2, HM.out.2, if_neg (by omega), List.take_append_drop] at e2
      refine Im.Pr.torn (f := Dm.read A) (m := m1) HB.out.2.2.1 (by omega) (by omega) HM.out.1 HK.out.1.2 hm1 ?_ ?_
      · show Dm.read (Dm.start (Dm.crash A4 [z])) (0 + (1 - (c + 1) % 2)) = _
        rw [Nat.zero_add, e1]
      · show Dm.read (Dm.start (Dm.crash A4 [z])) (0 + (1 - c % 2)) = _
        rw [Nat.zero_add, e2]
    obtain ⟨B, m, hpk, hBm⟩ : ∃ B m, Im.pk (fun i => Dm.read (Dm.start (Dm.crash A4 [z])) (0 + i)) 2 = (B, m) ∧ ((B = was ∧ m = c) ∨ (B = b ∧ m = c + 1)) := by
      rcases hpk with h | h
      · exact ⟨_, _, h, Or.inl ⟨rfl, rfl⟩⟩
      · exact ⟨_, _, h, Or.inr ⟨rfl, rfl⟩⟩
    have HPK := Lib.hid hpk
    clear hpk
    go_wp2_with fail
    refine (istart_ok (at_ := 0) H22.out.1 rfl (by omega)).mono ?_
    rintro e w23 ⟨D, rfl, hD, hb23⟩
    rw [HPK.out] at hD ⊢
    have hm0 : ¬ m = 0 := by rcases hBm with h | h <;> omega
    rw [show ((B, m) : Im.Bt × Nat).snd = m from rfl, if_neg hm0]
    clear hm0
    obtain ⟨w24, h24, k24, b24⟩ := boxedb w23 (D := D)
    have hbe24 := hb23.trans (b24.mono hb23.size)
    have H24 : Hid ((w23.alloc (.cells zbt 41)).setRow w23.heap.size D = w24 ∧ Below w.heap.size w w24 ∧ Whole w24 w23.heap.size 41 D ∧ Whole w24 G 41 W ∧ Whole w24 w.heap.size 41 C ∧ KC D B) := Lib.hid ⟨h24, (H22.out.2.old hbe24).1, k24, (H22.out.2.old hbe24).get HLL.out.2.1, (H22.out.2.old hbe24).get HLL.out.2.2, hD⟩
    clear h24 k24 b24 hbe24 hb23 hD
    have heq1 := (eq_bt (op := .eql) H24.out.2.2.2.2.2 HB.out.2.2.2.1).1
    have heq2 := (eq_bt (op := .eql) H24.out.2.2.2.2.2 HK.out.1).1
    rcases hBm with ⟨rfl, rfl⟩ | ⟨rfl, rfl⟩
    · rw [decide_eq_true rfl] at heq1
      clear heq2
      have HE1 := Lib.hid heq1
      clear heq1
      go_wp2_with (first | ((with_reducible show wpList _ _ _ ((⟨_, Op.store 41 _ _, _, _, _, _⟩ : Oper) :: _) _ _); refine wpList_store_row rfl 41 (.tmp 27) (.tmp 141) rfl w23.heap.size D rfl rfl 41 zbt (Whole.new w23 _ _) (KC.info H24.out.2.2.2.2.2) (Eq.trans (b := 35) rfl (KC.size H24.out.2.2.2.2.2).symm) (KC.all H24.out.2.2.2.2.2) ?_; rw [H24.out.1]) | ((with_reducible show wpList _ _ _ ((⟨some 147, _, _, _, _, _⟩ : Oper) :: _) _ _); ((with_reducible show wpList _ _ _ ((⟨_, Op.load 41 _, _, _, _, _⟩ : Oper) :: _) _ _); refine wpList_load_rowG (by rfl) 41 (.tmp 27) rfl w23.heap.size rfl 41 D (0, 0) _ H24.out.2.2.1 hun rfl (KC.info H24.out.2.2.2.2.2) ?_)) | ((with_reducible show wpList _ _ _ ((⟨some 148, _, _, _, _, _⟩ : Oper) :: _) _ _); ((with_reducible show wpList _ _ _ ((⟨_, Op.load 41 _, _, _, _, _⟩ : Oper) :: _) _ _); refine wpList_load_rowG (by rfl) 41 (.tmp 10) rfl G rfl 41 W (0, 0) _ H24.out.2.2.2.1 hun rfl (KC.info HB.out.2.2.2.1) ?_)) | ((with_reducible show wpList _ _ _ ((⟨some 149, _, _, _, _, _⟩ : Oper) :: _) _ _); refine wpList_cmpB (by rfl) .eql (.tmp 147) (.tmp 148) _ rfl D W rfl rfl true (HE1.out _) ?_) | fail)
      go_ret
      exact ⟨rfl, H24.out.2.1⟩
    · have k1 : (((c : Int) + 1) == (c : Int)) = false := by simp; omega
      have ew : IntKind.i64.wrap ((c : Int) + 1) = (c : Int) + 1 := IntWalk.i64_in _ (by omega)
      rw [decide_eq_true rfl] at heq2
      obtain ⟨r, hr⟩ : ∃ r, decide (B = was) = r := ⟨_, rfl⟩
      rw [hr] at heq1
      have HE1 := Lib.hid heq1
      have HE2 := Lib.hid heq2
      clear heq1 heq2 hr
      cases r with
      | true =>
        go_wp2_with (first | ((with_reducible show wpList _ _ _ ((⟨_, Op.store 41 _ _, _, _, _, _⟩ : Oper) :: _) _ _); refine wpList_store_row rfl 41 (.tmp 27) (.tmp 141) rfl w23.heap.size D rfl rfl 41 zbt (Whole.new w23 _ _) (KC.info H24.out.2.2.2.2.2) (Eq.trans (b := 35) rfl (KC.size H24.out.2.2.2.2.2).symm) (KC.all H24.out.2.2.2.2.2) ?_; rw [H24.out.1]) | ((with_reducible show wpList _ _ _ ((⟨_, Op.load 41 _, _, _, _, _⟩ : Oper) :: _) _ _); refine wpList_load_rowG (by rfl) 41 (.tmp 27) rfl w23.heap.size rfl 41 D (0, 0) _ H24.out.2.2.1 hun rfl (KC.info H24.out.2.2.2.2.2) ?_) | ((with_reducible show wpList _ _ _ ((⟨_, Op.load 41 _, _, _, _, _⟩ : Oper) :: _) _ _); refine wpList_load_rowG (by rfl) 41 (.tmp 10) rfl G rfl 41 W (0, 0) _ H24.out.2.2.2.1 hun rfl (KC.info HB.out.2.2.2.1) ?_) | ((with_reducible show wpList _ _ _ ((⟨_, Op.load 41 _, _, _, _, _⟩ : Oper) :: _) _ _); refine wpList_load_rowG (by rfl) 41 (.tmp 4) rfl w.heap.size rfl 41 C (0, 0) _ H24.out.2.2.2.2.1 hun rfl (KC.info HK.out.1) ?_) | ((with_reducible show wpList _ _ _ ((⟨some 149, _, _, _, _, _⟩ : Oper) :: _) _ _); refine wpList_cmpB (by rfl) .eql (.tmp 147) (.tmp 148) _ rfl D W rfl rfl true (HE1.out _) ?_) | ((with_reducible show wpList _ _ _ ((⟨some 158, _, _, _, _, _⟩ : Oper) :: _) _ _); refine wpList_cmpB (by rfl) .eql (.tmp 156) (.tmp 157) _ rfl D C rfl rfl true (HE2.out _) ?_) | fail)
        go_ret
        exact ⟨rfl, H24.out.2.1⟩
      | false =>
        go_wp2_with (first | ((with_reducible show wpList _ _ _ ((⟨_, Op.store 41 _ _, _, _, _, _⟩ : Oper) :: _) _ _); refine wpList_store_row rfl 41 (.tmp 27) (.tmp 141) rfl w23.heap.size D rfl rfl 41 zbt (Whole.new w23 _ _) (KC.info H24.out.2.2.2.2.2) (Eq.trans (b := 35) rfl (KC.size H24.out.2.2.2.2.2).symm) (KC.all H24.out.2.2.2.2.2) ?_; rw [H24.out.1]) | ((with_reducible show wpList _ _ _ ((⟨_, Op.load 41 _, _, _, _, _⟩ : Oper) :: _) _ _); refine wpList_load_rowG (by rfl) 41 (.tmp 27) rfl w23.heap.size rfl 41 D (0, 0) _ H24.out.2.2.1 hun rfl (KC.info H24.out.2.2.2.2.2) ?_) | ((with_reducible show wpList _ _ _ ((⟨_, Op.load 41 _, _, _, _, _⟩ : Oper) :: _) _ _); refine wpList_load_rowG (by rfl) 41 (.tmp 10) rfl G rfl 41 W (0, 0) _ H24.out.2.2.2.1 hun rfl (KC.info HB.out.2.2.2.1) ?_) | ((with_reducible show wpList _ _ _ ((⟨_, Op.load 41 _, _, _, _, _⟩ : Oper) :: _) _ _); refine wpList_load_rowG (by rfl) 41 (.tmp 4) rfl w.heap.size rfl 41 C (0, 0) _ H24.out.2.2.2.2.1 hun rfl (KC.info HK.out.1) ?_) | ((with_reducible show wpList _ _ _ ((⟨some 149, _, _, _, _, _⟩ : Oper) :: _) _ _); refine wpList_cmpB (by rfl) .eql (.tmp 147) (.tmp 148) _ rfl D W rfl rfl false (HE1.out _) ?_) | ((with_reducible show wpList _ _ _ ((⟨some 158, _, _, _, _, _⟩ : Oper) :: _) _ _); refine wpList_cmpB (by rfl) .eql (.tmp 156) (.tmp 157) _ rfl D C rfl rfl true (HE2.out _) ?_) | fail)
        go_ret
        exact ⟨rfl, H24.out.2.1⟩
end Go.Proofs.YtjpgepodkeccmaaDoor
