/-
  The walk of Point.
-/
import Derived.Test.YtjpgepodkeccmaaDoorUk
namespace Go.Proofs.YtjpgepodkeccmaaDoor
open Go.RowKit
set_option linter.unusedVariables false
set_option linter.unusedSimpArgs false
set_option maxRecDepth 20000
theorem boxedb (w : World) {D : Array Value} : ∃ w', (w.alloc (.cells zbt 41)).setRow w.heap.size D = w' ∧ Whole w' w.heap.size 41 D ∧ Below w.heap.size w w' :=
  ⟨_, rfl, (Whole.new w _ _).row _, below_row ((Below.refl _ _).alloc (Nat.le_refl _) _) (Nat.le_refl _) _⟩
theorem ipoint_bad {v : Value} {C : Array Value} {at_ : Int} {w : World} (hf : ∀ w', Below w.heap.size w w' → Calls Tryd.prog 27 #[v, .int .i64 at_, .int .i64 2] w' fun e w'' => e = .returned (.bool false) ∧ w' = w'') :
    Calls Tryd.prog 17 #[v, .int .i64 at_, .agg C] w fun e w' => e = .returned (.int .i64 1) ∧ Below w.heap.size w w' := by
  have hb := below_alloc w (.cells C 41)
  have HF := Lib.hid (hf _ hb)
  have H1 := Lib.hid hb
  clear hf hb
  go_enter Tryd.func17, Tryd.ntmps17
  go_wp2_with (first | (go_at_call 27; refine HF.out.mono ?_; rintro e w' ⟨rfl, rfl⟩) | fail)
  go_ret
  exact ⟨rfl, H1.out⟩
theorem ipoint_nil {C : Array Value} {at_ : Int} {w : World} : Calls Tryd.prog 17 #[.pointer none, .int .i64 at_, .agg C] w fun e w' => e = .returned (.int .i64 1) ∧ Below w.heap.size w w' := ipoint_bad fun w' _ => has_nil
theorem istart_nil {at_ : Int} {w : World} : Calls Tryd.prog 18 #[.pointer none, .int .i64 at_] w fun e w' => e = .returned (.tuple #[.agg zbt, .int .i64 0, .int .i64 1]) ∧ Below w.heap.size w w' := istart_bad fun w' _ => has_nil
theorem ipoint_may {p bb mb n at_ : Nat} {A : Dm.A} {C : Array Value} {b : Im.Bt} {w : World} (h : Dk w p bb mb A n) (hat : at_ + 2 ≤ n) (hC : KC C b) (hm : ¬ Im.May b) :
    Calls Tryd.prog 17 #[.pointer (some ⟨p, 0, none⟩), .int .i64 (at_ : Int), .agg C] w fun e w' => e = .returned (.int .i64 1) ∧ Below w.heap.size w w' := by
  obtain ⟨fsB, hun⟩ := und_bt
  have hsm := h.ok.small
  have hb := below_alloc w (.cells C 41)
  have hw : Whole (w.alloc (.cells C 41)) w.heap.size 41 C := Whole.new w _ _
  have HH := has_any (fr := (at_ : Int)) (bs := 2) (h.old hb) ⟨by omega, by omega⟩
  have hh : hasB n (at_ : Int) 2 = true := by unfold hasB; simp; omega
  rw [hh] at HH
  have HF := Lib.hid HH
  have HM := Lib.hid (may_any (w := w.alloc (.cells C 41)) hC)
  rw [decide_eq_false hm] at HM
  have H1 := Lib.hid (And.intro hb (And.intro hw hC))
  clear hb h HH hh hw hm hC
  go_enter Tryd.func17, Tryd.ntmps17
  go_wp2_with (first | (go_at_call 27; refine HF.out.mono ?_; rintro e w' ⟨rfl, rfl⟩) | ((with_reducible show wpList _ _ _ ((⟨_, Op.load 41 _, _, _, _, _⟩ : Oper) :: _) _ _); refine wpList_load_rowG (by rfl) 41 (.tmp 5) rfl w.heap.size rfl 41 C (0, 0) _ H1.out.2.1 hun rfl (KC.info H1.out.2.2) ?_) | fail)
  refine HM.out.mono ?_
  rintro e w2 ⟨rfl, hb2⟩
  have H2 := Lib.hid (H1.out.1.trans (hb2.mono H1.out.1.size))
  clear hb2
  go_wp2
  go_ret
  exact ⟨rfl, H2.out⟩
set_option maxHeartbeats 8000000 in
theorem ipoint_ok {p bb mb n at_ : Nat} {A : Dm.A} {C : Array Value} {b : Im.Bt} {w : World} {c : Nat} (h : Dk w p bb mb A n) (hd : A.down = false) (hat : at_ + 2 ≤ n) (hC : KC C b) (hm : Im.May b) (hc : (Im.pk (fun i => Dm.read A (at_ + i)) 2).2 = c) (hlt : c < 1099511627776) :
    Calls Tryd.prog 17 #[.pointer (some ⟨p, 0, none⟩), .int .i64 (at_ : Int), .agg C] w fun e w' => e = .returned (.int .i64 0) ∧ Dk w' p bb mb (Dm.flush (Dm.write A (at_ + 1 - (c + 1) % 2) (Im.blkOf b (c + 1)))) n ∧ Only [p, bb, mb] w w' := by
  obtain ⟨fsB, hun⟩ := und_bt
  have hzb := zero_bt
  have hsm := h.ok.small
  have hb := below_alloc w (.cells C 41)
  have hw : Whole (w.alloc (.cells C 41)) w.heap.size 41 C := Whole.new w _ _
  obtain ⟨w1, h1⟩ : ∃ w1, w.alloc (.cells C 41) = w1 := ⟨_, rfl⟩
  rw [h1] at hb hw
  have HH := has_any (fr := (at_ : Int)) (bs := 2) (h.old hb) ⟨by omega, by omega⟩
  have hh : hasB n (at_ : Int) 2 = true := by unfold hasB; simp; omega
  rw [hh] at HH
  have HF := Lib.hid HH
  have HM := Lib.hid (may_any (w := w1) hC)
  rw [decide_eq_true hm] at HM
  have H1 := Lib.hid (And.intro hb (And.intro hw (And.intro hC (And.intro h1 (And.intro hm hc)))))
  have HD := Lib.hid (And.intro h hd)
  obtain ⟨pl, hpl⟩ : ∃ pl, at_ + 1 - (c + 1) % 2 = pl := ⟨_, rfl⟩
  rw [hpl]
  have hm2 : ((c : Int) + 1).tmod 2 = (((c + 1) % 2 : Nat) : Int) := rfl
  have hm3 : ((c : Int) + 1) % 2 = (((c + 1) % 2 : Nat) : Int) := by omega
  obtain ⟨r, hr⟩ : ∃ r, (c + 1) % 2 = r := ⟨_, rfl⟩
  rw [hr] at hm2 hm3 hpl
  have hp2 : (at_ : Int) + 1 - (r : Int) = (pl : Int) := by omega
  have hpn : pl < n := by omega
  have hr2 : r < 2 := by omega
  have hb1 : at_ ≤ 4096 := by omega
  clear hb h HH hh hw hm hC h1 hc hd hpl hr
  go_enter Tryd.func17, Tryd.ntmps17
  go_upto_region 1 with fail
  rw [H1.out.2.2.2.1]
  go_wp2_with (first | (go_at_call 27; refine HF.out.mono ?_; rintro e w' ⟨rfl, rfl⟩) | ((with_reducible show wpList _ _ _ ((⟨_, Op.load 41 _, _, _, _, _⟩ : Oper) :: _) _ _); refine wpList_load_rowG (by rfl) 41 (.tmp 5) rfl w.heap.size rfl 41 C (0, 0) _ H1.out.2.1 hun rfl (KC.info H1.out.2.2.1) ?_) | fail)
  refine HM.out.mono ?_
  rintro e w2 ⟨rfl, hb2⟩
  have H2 : Hid (Below w.heap.size w w2 ∧ Whole w2 w.heap.size 41 C) := Lib.hid ⟨H1.out.1.trans (hb2.mono H1.out.1.size), H1.out.2.1.keep (hb2.block _ H1.out.2.1.lt)⟩
  clear hb2
  go_wp2_with fail
  refine (istart_ok (HD.out.1.old H2.out.1) HD.out.2 hat).mono ?_
  rintro e w3 ⟨D, rfl, hD, hb3⟩
  rw [H1.out.2.2.2.2.2]
  obtain ⟨w4, h4, k4, b4⟩ := boxedb w3 (D := D)
  have hb4 := H2.out.1.trans ((hb3.trans (b4.mono hb3.size)).mono H2.out.1.size)
  have hw4 := H2.out.2.keep ((hb3.trans (b4.mono hb3.size)).block _ H2.out.2.lt)
  have H5 := Lib.hid (And.intro h4 (And.intro hw4 (And.intro hb4 hD)))
  have HBO := Lib.hid (iblock_any (c := c + 1) (w := w4) H1.out.2.2.1 H1.out.2.2.2.2.1 (by omega))
  have e1 : (((c + 1 : Nat)) : Int) = (c : Int) + 1 := by omega
  rw [e1] at HBO
  have q1 : ((c : Int) == 1099511627776) = false := by simp; omega
  have q2 : ¬ (c : Int) = 1099511627776 := by omega
  have hE : (if c = 0 then (81 : Int) else 0) = 81 ∨ (if c = 0 then (81 : Int) else 0) = 0 := by split; exact Or.inl rfl; exact Or.inr rfl
  generalize (if c = 0 then (81 : Int) else 0) = E at *
  clear hb3 h4 k4 b4 hb4 hw4 hD e1
  rcases hE with rfl | rfl
  · skip
    go_wp2_with (first | ((with_reducible show wpList _ _ _ ((⟨_, Op.store 41 _ _, _, _, _, _⟩ : Oper) :: _) _ _); refine wpList_store_row rfl 41 (.tmp 7) (.tmp 25) rfl w3.heap.size D rfl rfl 41 zbt (Whole.new w3 _ _) (KC.info H5.out.2.2.2) (Eq.trans (b := 35) rfl (KC.size H5.out.2.2.2).symm) (KC.all H5.out.2.2.2) ?_; rw [H5.out.1]) | ((with_reducible show wpList _ _ _ ((⟨_, Op.load 41 _, _, _, _, _⟩ : Oper) :: _) _ _); refine wpList_load_row rfl 41 (.tmp 5) rfl w.heap.size rfl 41 C (0, 0) _ H5.out.2.1 hun rfl (KC.info H1.out.2.2.1) ?_) | fail)
    refine HBO.out.mono ?_
    rintro e w5 ⟨rfl, hb5⟩
    have H6 : Hid (Below w.heap.size w w5) := Lib.hid (H5.out.2.2.1.trans (hb5.mono H5.out.2.2.1.size))
    clear hb5
    go_wp2_with fail
    refine (write_at (z := (pl : Int)) (b := Im.blkOf b (c + 1)) (HD.out.1.old H6.out) HD.out.2 (by omega) (by omega) (Im.blk_len H1.out.2.2.1.2.1) (Im.blk_byt H1.out.2.2.1.2.2 H1.out.2.2.2.2.1.1)).mono ?_
    rintro e w6 ⟨rfl, hd6, ho6⟩
    rw [Int.toNat_natCast] at hd6
    have H7 := Lib.hid (And.intro hd6 ((Only.of_below H6.out).trans ho6))
    clear hd6 ho6
    go_wp2_with fail
    refine (flush_any H7.out.1 HD.out.2).mono ?_
    rintro e w7 ⟨rfl, hd7, ho7⟩
    have H8 := Lib.hid (And.intro hd7 (H7.out.2.trans ho7))
    clear hd7 ho7
    go_wp2
    go_ret
    exact ⟨rfl, H8.out.1, H8.out.2⟩
  · skip
    go_wp2_with (first | ((with_reducible show wpList _ _ _ ((⟨_, Op.store 41 _ _, _, _, _, _⟩ : Oper) :: _) _ _); refine wpList_store_row rfl 41 (.tmp 7) (.tmp 25) rfl w3.heap.size D rfl rfl 41 zbt (Whole.new w3 _ _) (KC.info H5.out.2.2.2) (Eq.trans (b := 35) rfl (KC.size H5.out.2.2.2).symm) (KC.all H5.out.2.2.2) ?_; rw [H5.out.1]) | ((with_reducible show wpList _ _ _ ((⟨_, Op.load 41 _, _, _, _, _⟩ : Oper) :: _) _ _); refine wpList_load_row rfl 41 (.tmp 5) rfl w.heap.size rfl 41 C (0, 0) _ H5.out.2.1 hun rfl (KC.info H1.out.2.2.1) ?_) | fail)
    refine HBO.out.mono ?_
    rintro e w5 ⟨rfl, hb5⟩
    have H6 : Hid (Below w.heap.size w w5) := Lib.hid (H5.out.2.2.1.trans (hb5.mono H5.out.2.2.1.size))
    clear hb5
    go_wp2_with fail
    refine (write_at (z := (pl : Int)) (b := Im.blkOf b (c + 1)) (HD.out.1.old H6.out) HD.out.2 (by omega) (by omega) (Im.blk_len H1.out.2.2.1.2.1) (Im.blk_byt H1.out.2.2.1.2.2 H1.out.2.2.2.2.1.1)).mono ?_
    rintro e w6 ⟨rfl, hd6, ho6⟩
    rw [Int.toNat_natCast] at hd6
    have H7 := Lib.hid (And.intro hd6 ((Only.of_below H6.out).trans ho6))
    clear hd6 ho6
    go_wp2_with fail
    refine (flush_any H7.out.1 HD.out.2).mono ?_
    rintro e w7 ⟨rfl, hd7, ho7⟩
    have H8 := Lib.hid (And.intro hd7 (H7.out.2.trans ho7))
    clear hd7 ho7
    go_wp2
    go_ret
    exact ⟨rfl, H8.out.1, H8.out.2⟩
end Go.Proofs.YtjpgepodkeccmaaDoor
