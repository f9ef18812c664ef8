/-
  The document's Tree.
-/
import Derived.Test.YtndiojiphoomgaaDoorJg
set_option linter.unusedSimpArgs false
namespace Go.Proofs.YtndiojiphoomgaaDoor
open Go.RowKit
theorem pow_unique {j k n : Nat} (h1 : 2 ^ j < n) (h2 : n ≤ 2 * 2 ^ j) (h3 : 2 ^ k < n) (h4 : n ≤ 2 * 2 ^ k) : j = k := by
  have a1 : 2 ^ j < 2 ^ (k + 1) := by rw [Nat.pow_succ]; omega
  have a2 : 2 ^ k < 2 ^ (j + 1) := by rw [Nat.pow_succ]; omega
  have b1 := (Nat.pow_lt_pow_iff_right (a := 2) (by omega)).1 a1
  have b2 := (Nat.pow_lt_pow_iff_right (a := 2) (by omega)).1 a2
  omega
theorem pw_unique {p n : Nat} (h2 : 2 ≤ n) (hp : ∃ k, p = 2 ^ k) (h3 : p < n) (h4 : n ≤ 2 * p) : p = Sm.pw n := by
  obtain ⟨k, rfl⟩ := hp
  have h := pw_spec n h2
  unfold Sm.pw at h ⊢
  rw [pow_unique h3 h4 h.2.1 h.2.2]
theorem rtree_nil {a : Option Addr} {c : Nat} {w : World} :
    Calls Tryd.prog 15 #[.slice a 0 c] w fun e w' => e = .returned (.agg (nums (Sm.tree [])).toArray) ∧ Below w.heap.size w w' := by
  rw [tree_nil]
  go_enter Tryd.func15, Tryd.ntmps15
  go_wp2_with fail
  rw [zero32z]
  have k0 := Whole.new w 24 (nums (zs 32)).toArray
  have b0 := below_alloc w (.cells (nums (zs 32)).toArray 24)
  generalize w.alloc (.cells (nums (zs 32)).toArray 24) = w0 at *
  refine (rsum_any (Txt.nil w0 (fun _ => True) none 0) (by omega)).mono ?_
  rintro e w1 ⟨rfl, hb1⟩
  have K1 := Lib.hid (k0.below hb1 k0.lt)
  have B1 : Hid (Below w.heap.size w w1) := Lib.hid (b0.trans (hb1.mono (Nat.le_of_lt k0.lt)))
  clear k0 b0 hb1
  have hNe := all_nums (Sm.dig [])
  have HNS := Lib.hid (row_size (dig_ok []))
  with_reducible generalize hN : (nums (Sm.dig [])).toArray = N at *
  go_wp2_with ((with_reducible show wpList _ _ _ ((⟨_, Op.store 24 _ _, _, _, _, _⟩ : Oper) :: _) _ _); refine wpList_store_row rfl _ (.tmp 2) (.tmp 9) rfl w.heap.size N rfl rfl 24 _ K1.out (by rw [HNS.out]; exact info32) (by rw [HNS.out]; rfl) hNe ?_)
  refine bodyPost_ret (results_one_cell rfl _ _ _ _ rfl (run_loadVar_row _ _ _ _ _ (0, 0) _ (K1.out.row N) und32 rfl (by rw [HNS.out]; exact info32))) rfl ?_
  exact ⟨by rw [hN], below_row B1.out (Nat.le_refl _) N⟩
theorem rtree_one {S : Nat → Prop} {a : Option Addr} {c : Nat} {d : List Int} {w : World} (h : Digs w S a 1 [d]) :
    Calls Tryd.prog 15 #[.slice a 1 c] w fun e w' => e = .returned (.agg (nums (Sm.tree [d])).toArray) ∧ Below w.heap.size w w' := by
  obtain ⟨_, hd, h4⟩ := h
  rcases h4 with h4 | ⟨b, off, rfl, _, hlt, hc⟩
  · cases h4
  have hdd := hd d (by simp)
  have r0 : w.rangeAt b off (nums d) := by have := hc 0 (by omega); simpa using this
  have HD := Lib.hid hdd
  have HR := Lib.hid (World.rangeAt_alloc r0 (.cells #[Value.int IntKind.u8 0, Value.int IntKind.u8 0, Value.int IntKind.u8 0, Value.int IntKind.u8 0, Value.int IntKind.u8 0, Value.int IntKind.u8 0, Value.int IntKind.u8 0, Value.int IntKind.u8 0, Value.int IntKind.u8 0, Value.int IntKind.u8 0, Value.int IntKind.u8 0, Value.int IntKind.u8 0, Value.int IntKind.u8 0, Value.int IntKind.u8 0, Value.int IntKind.u8 0, Value.int IntKind.u8 0, Value.int IntKind.u8 0, Value.int IntKind.u8 0, Value.int IntKind.u8 0, Value.int IntKind.u8 0, Value.int IntKind.u8 0, Value.int IntKind.u8 0, Value.int IntKind.u8 0, Value.int IntKind.u8 0, Value.int IntKind.u8 0, Value.int IntKind.u8 0, Value.int IntKind.u8 0, Value.int IntKind.u8 0, Value.int IntKind.u8 0, Value.int IntKind.u8 0, Value.int IntKind.u8 0, Value.int IntKind.u8 0] 24))
  have HL : Hid ((nums d).length = 32) := Lib.hid (by rw [nums_len, hdd.1])
  clear hd hdd r0 hc
  have hNe := all_nums d
  have HNS := Lib.hid (row_size HD.out)
  go_enter Tryd.func15, Tryd.ntmps15
  go_wp2_with (first
    | ((with_reducible show wpList _ _ _ ((⟨_, Op.load 24 _, _, _, _, _⟩ : Oper) :: _) _ _); refine wpList_load_mid rfl _ (.tmp 14) rfl b off rfl _ _ HR.out und32 rfl (by rw [HL.out]; exact info32) ?_)
    | ((with_reducible show wpList _ _ _ ((⟨_, Op.store 24 _ _, _, _, _, _⟩ : Oper) :: _) _ _); refine wpList_store_row rfl _ (.tmp 2) (.tmp 15) rfl w.heap.size (nums d).toArray rfl rfl 24 _ (Whole.new _ _ _) (by rw [HNS.out]; exact info32) (by rw [HNS.out]; rfl) hNe ?_))
  refine bodyPost_ret (results_one_cell rfl _ _ _ _ rfl (run_loadVar_row _ _ _ _ _ (0, 0) _ ((Whole.new w _ _).row (nums d).toArray) und32 rfl (by rw [HNS.out]; exact info32))) rfl ?_
  exact ⟨rfl, below_row (below_alloc _ _) (Nat.le_refl _) _⟩
set_option maxHeartbeats 8000000 in
theorem rtree_any (n : Nat) : ∀ {S : Nat → Prop} {a : Option Addr} {c : Nat} {l : List (List Int)} {w : World}, Digs w S a n l → n ≤ c → n ≤ 200 →
    Calls Tryd.prog 15 #[.slice a n c] w fun e w' => e = .returned (.agg (nums (Sm.tree l)).toArray) ∧ Below w.heap.size w w' := by
  induction n using Nat.strongRecOn with
  | _ n ih0 =>
  intro S a c l w h hnc hn
  have IH : Hid (∀ m, m < n → ∀ {S : Nat → Prop} {a : Option Addr} {c : Nat} {l : List (List Int)} {w : World}, Digs w S a m l → m ≤ c → m ≤ 200 → Calls Tryd.prog 15 #[.slice a m c] w fun e w' => e = .returned (.agg (nums (Sm.tree l)).toArray) ∧ Below w.heap.size w w') := Lib.hid ih0
  clear ih0
  by_cases h0 : n = 0
  · subst h0
    have : l = [] := List.eq_nil_of_length_eq_zero h.1
    subst this
    exact rtree_nil
  by_cases h1 : n = 1
  · subst h1
    obtain ⟨d, rfl⟩ : ∃ d, l = [d] := List.length_eq_one_iff.1 h.1
    exact rtree_one h
  have h2 : 2 ≤ n := by omega
  have hl : l.length = n := h.1
  have HDG := Lib.hid h.old
  have HLN := Lib.hid hl
  have e0 : ((n : Int) == 0) = false := by rw [beq_eq_false_iff_ne]; omega
  have e1 : ((n : Int) == 1) = false := by rw [beq_eq_false_iff_ne]; omega
  have HH2 := Lib.hid h2
  clear h hl h0 h1
  go_enter Tryd.func15, Tryd.ntmps15
  go_wp2
  rw [zero32z]
  have k0 := Whole.new w 24 (nums (zs 32)).toArray
  have b0 := below_alloc w (.cells (nums (zs 32)).toArray 24)
  have z0 : w.heap.size + 1 ≤ (w.alloc (.cells (nums (zs 32)).toArray 24)).heap.size := k0.lt
  generalize w.alloc (.cells (nums (zs 32)).toArray 24) = w0 at *
  generalize hBe : w.heap.size = B at *
  have HBE := Lib.hid hBe
  have H0 := Lib.hid (And.intro k0 b0)
  clear k0 b0 hBe
  go_loopw [3] (fun i wr => ∃ p : Nat, 1 ≤ p ∧ p < n ∧ i = .int .i64 (p : Int) ∧ Hid (∃ k, p = 2 ^ k) ∧ wr = w0) (fun i _ => n - (intOf i).toNat)
  case atStart => exact ⟨1, by omega, by omega, rfl, Lib.hid ⟨0, rfl⟩, rfl⟩
  case round =>
    obtain ⟨p, hp1, hp2, rfl, HPK, rfl⟩ := hrel
    by_cases hlt : 2 * p < n
    · have hd : decide (2 * (p : Int) < (n : Int)) = true := by simp; omega
      go_wp2
      go_roundw
      case rel => exact ⟨2 * p, by omega, hlt, by go_num, Lib.hid (by obtain ⟨k, hk⟩ := HPK.out; exact ⟨k + 1, by rw [hk, Nat.pow_succ]; omega⟩), trivial⟩
      case measure => simp [intOf]; omega
    · have hd : decide (2 * (p : Int) < (n : Int)) = false := by simp; omega
      have hpe := pw_unique h2 HPK.out hp2 (by omega)
      have HPE : Hid (Sm.pw n = p) := Lib.hid hpe.symm
      clear hpe
      have HT : Hid (Sm.tree l = Sm.dig (1 :: (Sm.tree (l.take p) ++ Sm.tree (l.drop p)))) := Lib.hid (by have := tree_more l (by rw [HLN.out]; omega); rw [HLN.out, HPE.out] at this; exact this)
      have HX : Hid (Dig (Sm.tree (l.take p)) ∧ Dig (Sm.tree (l.drop p)) ∧ Dig (Sm.tree l)) := Lib.hid ⟨tree_ok _ (fun d hd => HDG.out.2.1 d (List.mem_of_mem_take hd)), tree_ok _ (fun d hd => HDG.out.2.1 d (List.mem_of_mem_drop hd)), tree_ok _ HDG.out.2.1⟩
      have HA := Lib.hid ((HDG.out.take p (by omega)).below H0.out.2 (fun _ h _ => by rw [← HBE.out]; exact h))
      obtain ⟨A, hslo, HC⟩ : ∃ A, (∀ w, (Instr.slice 29 (.slice a n c) (some (.int .i64 (p : Int))) none none).run Tryd.prog w = .ok (.slice A (n - p) (c - p)) w) ∧ Hid (Digs w (fun b => b < w.heap.size) A (n - p) (l.drop p)) := ⟨_, slice_lo (by omega), Lib.hid ((HDG.out.drop p c (by omega) hnc).old)⟩
      have hshi : ∀ w, (Instr.slice 29 (.slice a n c) none (some (.int .i64 (p : Int))) none).run Tryd.prog w = .ok (.slice a p c) w := slice_hi (by omega) (by omega)
      obtain ⟨res, hres⟩ : ∃ res, Sm.tree l = res := ⟨_, rfl⟩
      rw [hres] at HT HX
      have HRES := Lib.hid hres
      clear hres
      obtain ⟨x, hx⟩ : ∃ x, Sm.tree (l.take p) = x := ⟨_, rfl⟩
      obtain ⟨y, hy⟩ : ∃ y, Sm.tree (l.drop p) = y := ⟨_, rfl⟩
      rw [hx, hy] at HT HX
      have HXE := Lib.hid hx
      have HYE := Lib.hid hy
      clear hx hy
      go_wp2_with fail
      refine (IH.out p (by omega) HA.out (by omega) (by omega)).mono ?_
      rintro e w1 ⟨rfl, hb1⟩
      rw [HXE.out]
      have HB1 : Hid (Below (B + 1) wr w1) := Lib.hid (hb1.mono z0)
      have z1 : B + 1 ≤ w1.heap.size := Nat.le_trans z0 hb1.size
      clear hb1
      have hNx := all_nums x
      have HNX := Lib.hid (row_size HX.out.1)
      have hNy := all_nums y
      have HNY := Lib.hid (row_size HX.out.2.1)
      go_upto_region 9 with ((with_reducible show wpList _ _ _ ((⟨_, Op.store 24 _ _, _, _, _, _⟩ : Oper) :: _) _ _); refine wpList_store_row rfl _ (.tmp 4) (.tmp 26) rfl w1.heap.size (nums x).toArray rfl rfl 24 _ (Whole.new _ _ _) (by rw [HNX.out]; exact info32) (by rw [HNX.out]; rfl) hNx ?_)
      have kp : Whole ((w1.alloc (.cells #[Value.int IntKind.u8 0, Value.int IntKind.u8 0, Value.int IntKind.u8 0, Value.int IntKind.u8 0, Value.int IntKind.u8 0, Value.int IntKind.u8 0, Value.int IntKind.u8 0, Value.int IntKind.u8 0, Value.int IntKind.u8 0, Value.int IntKind.u8 0, Value.int IntKind.u8 0, Value.int IntKind.u8 0, Value.int IntKind.u8 0, Value.int IntKind.u8 0, Value.int IntKind.u8 0, Value.int IntKind.u8 0, Value.int IntKind.u8 0, Value.int IntKind.u8 0, Value.int IntKind.u8 0, Value.int IntKind.u8 0, Value.int IntKind.u8 0, Value.int IntKind.u8 0, Value.int IntKind.u8 0, Value.int IntKind.u8 0, Value.int IntKind.u8 0, Value.int IntKind.u8 0, Value.int IntKind.u8 0, Value.int IntKind.u8 0, Value.int IntKind.u8 0, Value.int IntKind.u8 0, Value.int IntKind.u8 0, Value.int IntKind.u8 0] 24)).setRow w1.heap.size (nums x).toArray) w1.heap.size 24 (nums x).toArray := put_row
      have hb2 : Below (B + 1) wr ((w1.alloc (.cells #[Value.int IntKind.u8 0, Value.int IntKind.u8 0, Value.int IntKind.u8 0, Value.int IntKind.u8 0, Value.int IntKind.u8 0, Value.int IntKind.u8 0, Value.int IntKind.u8 0, Value.int IntKind.u8 0, Value.int IntKind.u8 0, Value.int IntKind.u8 0, Value.int IntKind.u8 0, Value.int IntKind.u8 0, Value.int IntKind.u8 0, Value.int IntKind.u8 0, Value.int IntKind.u8 0, Value.int IntKind.u8 0, Value.int IntKind.u8 0, Value.int IntKind.u8 0, Value.int IntKind.u8 0, Value.int IntKind.u8 0, Value.int IntKind.u8 0, Value.int IntKind.u8 0, Value.int IntKind.u8 0, Value.int IntKind.u8 0, Value.int IntKind.u8 0, Value.int IntKind.u8 0, Value.int IntKind.u8 0, Value.int IntKind.u8 0, Value.int IntKind.u8 0, Value.int IntKind.u8 0, Value.int IntKind.u8 0, Value.int IntKind.u8 0] 24)).setRow w1.heap.size (nums x).toArray) := put_below HB1.out z1
      generalize (w1.alloc (.cells #[Value.int IntKind.u8 0, Value.int IntKind.u8 0, Value.int IntKind.u8 0, Value.int IntKind.u8 0, Value.int IntKind.u8 0, Value.int IntKind.u8 0, Value.int IntKind.u8 0, Value.int IntKind.u8 0, Value.int IntKind.u8 0, Value.int IntKind.u8 0, Value.int IntKind.u8 0, Value.int IntKind.u8 0, Value.int IntKind.u8 0, Value.int IntKind.u8 0, Value.int IntKind.u8 0, Value.int IntKind.u8 0, Value.int IntKind.u8 0, Value.int IntKind.u8 0, Value.int IntKind.u8 0, Value.int IntKind.u8 0, Value.int IntKind.u8 0, Value.int IntKind.u8 0, Value.int IntKind.u8 0, Value.int IntKind.u8 0, Value.int IntKind.u8 0, Value.int IntKind.u8 0, Value.int IntKind.u8 0, Value.int IntKind.u8 0, Value.int IntKind.u8 0, Value.int IntKind.u8 0, Value.int IntKind.u8 0, Value.int IntKind.u8 0] 24)).setRow w1.heap.size (nums x).toArray = w2 at *
      generalize w1.heap.size = P at *
      have z2 : P < w2.heap.size := kp.lt
      have H2 := Lib.hid (And.intro kp hb2)
      have hdc := HC.out.below (H0.out.2.trans (hb2.mono (by omega))) (fun _ h _ => by rw [← HBE.out]; exact h)
      have HC2 := Lib.hid hdc
      clear kp hb2 hdc
      go_wp2_with fail
      refine (IH.out (n - p) (by omega) HC2.out (by omega) (by omega)).mono ?_
      rintro e w3 ⟨rfl, hb3⟩
      rw [HYE.out]
      have H3 := Lib.hid (And.intro (H2.out.1.below hb3 z2) (H2.out.2.trans (hb3.mono (by omega))))
      have z3 : P < w3.heap.size := Nat.lt_of_lt_of_le z2 hb3.size
      clear hb3
      go_upto_region 10 with ((with_reducible show wpList _ _ _ ((⟨_, Op.store 24 _ _, _, _, _, _⟩ : Oper) :: _) _ _); refine wpList_store_row rfl _ (.tmp 5) (.tmp 30) rfl w3.heap.size (nums y).toArray rfl rfl 24 _ (Whole.new _ _ _) (by rw [HNY.out]; exact info32) (by rw [HNY.out]; rfl) hNy ?_)
      have kq : Whole ((w3.alloc (.cells #[Value.int IntKind.u8 0, Value.int IntKind.u8 0, Value.int IntKind.u8 0, Value.int IntKind.u8 0, Value.int IntKind.u8 0, Value.int IntKind.u8 0, Value.int IntKind.u8 0, Value.int IntKind.u8 0, Value.int IntKind.u8 0, Value.int IntKind.u8 0, Value.int IntKind.u8 0, Value.int IntKind.u8 0, Value.int IntKind.u8 0, Value.int IntKind.u8 0, Value.int IntKind.u8 0, Value.int IntKind.u8 0, Value.int IntKind.u8 0, Value.int IntKind.u8 0, Value.int IntKind.u8 0, Value.int IntKind.u8 0, Value.int IntKind.u8 0, Value.int IntKind.u8 0, Value.int IntKind.u8 0, Value.int IntKind.u8 0, Value.int IntKind.u8 0, Value.int IntKind.u8 0, Value.int IntKind.u8 0, Value.int IntKind.u8 0, Value.int IntKind.u8 0, Value.int IntKind.u8 0, Value.int IntKind.u8 0, Value.int IntKind.u8 0] 24)).setRow w3.heap.size (nums y).toArray) w3.heap.size 24 (nums y).toArray := put_row
      have kp : Whole ((w3.alloc (.cells #[Value.int IntKind.u8 0, Value.int IntKind.u8 0, Value.int IntKind.u8 0, Value.int IntKind.u8 0, Value.int IntKind.u8 0, Value.int IntKind.u8 0, Value.int IntKind.u8 0, Value.int IntKind.u8 0, Value.int IntKind.u8 0, Value.int IntKind.u8 0, Value.int IntKind.u8 0, Value.int IntKind.u8 0, Value.int IntKind.u8 0, Value.int IntKind.u8 0, Value.int IntKind.u8 0, Value.int IntKind.u8 0, Value.int IntKind.u8 0, Value.int IntKind.u8 0, Value.int IntKind.u8 0, Value.int IntKind.u8 0, Value.int IntKind.u8 0, Value.int IntKind.u8 0, Value.int IntKind.u8 0, Value.int IntKind.u8 0, Value.int IntKind.u8 0, Value.int IntKind.u8 0, Value.int IntKind.u8 0, Value.int IntKind.u8 0, Value.int IntKind.u8 0, Value.int IntKind.u8 0, Value.int IntKind.u8 0, Value.int IntKind.u8 0] 24)).setRow w3.heap.size (nums y).toArray) P 24 (nums x).toArray := put_far H3.out.1
      have hb4 : Below (B + 1) wr ((w3.alloc (.cells #[Value.int IntKind.u8 0, Value.int IntKind.u8 0, Value.int IntKind.u8 0, Value.int IntKind.u8 0, Value.int IntKind.u8 0, Value.int IntKind.u8 0, Value.int IntKind.u8 0, Value.int IntKind.u8 0, Value.int IntKind.u8 0, Value.int IntKind.u8 0, Value.int IntKind.u8 0, Value.int IntKind.u8 0, Value.int IntKind.u8 0, Value.int IntKind.u8 0, Value.int IntKind.u8 0, Value.int IntKind.u8 0, Value.int IntKind.u8 0, Value.int IntKind.u8 0, Value.int IntKind.u8 0, Value.int IntKind.u8 0, Value.int IntKind.u8 0, Value.int IntKind.u8 0, Value.int IntKind.u8 0, Value.int IntKind.u8 0, Value.int IntKind.u8 0, Value.int IntKind.u8 0, Value.int IntKind.u8 0, Value.int IntKind.u8 0, Value.int IntKind.u8 0, Value.int IntKind.u8 0, Value.int IntKind.u8 0, Value.int IntKind.u8 0] 24)).setRow w3.heap.size (nums y).toArray) := put_below H3.out.2 (by omega)
      generalize (w3.alloc (.cells #[Value.int IntKind.u8 0, Value.int IntKind.u8 0, Value.int IntKind.u8 0, Value.int IntKind.u8 0, Value.int IntKind.u8 0, Value.int IntKind.u8 0, Value.int IntKind.u8 0, Value.int IntKind.u8 0, Value.int IntKind.u8 0, Value.int IntKind.u8 0, Value.int IntKind.u8 0, Value.int IntKind.u8 0, Value.int IntKind.u8 0, Value.int IntKind.u8 0, Value.int IntKind.u8 0, Value.int IntKind.u8 0, Value.int IntKind.u8 0, Value.int IntKind.u8 0, Value.int IntKind.u8 0, Value.int IntKind.u8 0, Value.int IntKind.u8 0, Value.int IntKind.u8 0, Value.int IntKind.u8 0, Value.int IntKind.u8 0, Value.int IntKind.u8 0, Value.int IntKind.u8 0, Value.int IntKind.u8 0, Value.int IntKind.u8 0, Value.int IntKind.u8 0, Value.int IntKind.u8 0, Value.int IntKind.u8 0, Value.int IntKind.u8 0] 24)).setRow w3.heap.size (nums y).toArray = w4 at *
      generalize w3.heap.size = Q at *
      have z4 : Q < w4.heap.size := kq.lt
      have H4 : Hid (Whole w4.drew P 24 (nums x).toArray ∧ Whole w4.drew Q 24 (nums y).toArray ∧ Below (B + 1) wr w4.drew) := Lib.hid ⟨kp, kq, hb4.drew⟩
      clear kp kq hb4 H3 H2 HC2 HNX HNY hNx hNy
      obtain ⟨i0, hi0, hz0, hz1, hz2⟩ := info_parts u8_info
      have HI := Lib.hid (And.intro hi0 (And.intro hz0 (And.intro hz1 hz2)))
      clear hi0 hz0 hz1 hz2
      refine wp_region_held_drew (S := fun _ => True) (by kernel_rfl) trivial (fun hHeld => ?_)
      have z5 : Q < w4.drew.heap.size := z4
      generalize w4.drew = v0 at *
      refine wpAnyH_take (i := 1) (v := .slice (some ⟨P, 0, none⟩) 32 32) rfl (by kernel_rfl) (by kernel_rfl) (by kernel_rfl) (fun _ _ _ h => h) (Or.inl ⟨by rfl, (by intro w hSw; (try dsimp only at hSw); go_simp)⟩) (by assumption) ?_
      try simp only [Act.put, List.getElem_toArray, List.getElem_cons_zero, List.getElem_cons_succ, List.setIfInBounds_toArray, List.set_cons_zero, List.set_cons_succ]
      refine wpAnyH_take (i := 3) (v := .slice (some ⟨Q, 0, none⟩) 32 32) rfl (by kernel_rfl) (by kernel_rfl) (by kernel_rfl) (fun _ _ _ h => h) (Or.inl ⟨by rfl, (by intro w hSw; (try dsimp only at hSw); go_simp)⟩) (by assumption) ?_
      try simp only [Act.put, List.getElem_toArray, List.getElem_cons_zero, List.getElem_cons_succ, List.setIfInBounds_toArray, List.set_cons_zero, List.set_cons_succ]
      refine wpAnyH_ready (rs := [0]) (by kernel_rfl) (by simp) (AllReadyH.cons rfl (fun K hK => ?_) AllReadyH.nil)
      try simp only [List.getElem_toArray, List.getElem_cons_zero, List.getElem_cons_succ]
      go_simp
      refine hK.out _ _ trivial (fun hHeld => ?_)
      clear hK K
      try simp only [Act.put, List.getElem_toArray, List.getElem_cons_zero, List.getElem_cons_succ, List.setIfInBounds_toArray, List.set_cons_zero, List.set_cons_succ]
      have ho5 : (v0.alloc (.cells #[.int .u8 1] 5)).ownsRow v0.heap.size 5 1 (.slice (some ⟨v0.heap.size, 0, none⟩) 1 1) 1 (nums [1]) := World.ownsRow_lit v0 #[.int .u8 1] 1 (Nat.le_refl _) (by unfold maxLen; omega) rfl
      have H5 : Hid (Whole (v0.alloc (.cells #[.int .u8 1] 5)) P 24 (nums x).toArray ∧ Whole (v0.alloc (.cells #[.int .u8 1] 5)) Q 24 (nums y).toArray ∧ Below (B + 1) wr (v0.alloc (.cells #[.int .u8 1] 5))) := Lib.hid ⟨H4.out.1.alloc _, H4.out.2.1.alloc _, H4.out.2.2.alloc (by omega) _⟩
      have HO5 := Lib.hid ho5
      have z6 : v0.heap.size ≤ (v0.alloc (.cells #[.int .u8 1] 5)).heap.size := by simp
      clear ho5 H4
      generalize v0.alloc (.cells #[.int .u8 1] 5) = v1 at *
      generalize v0.heap.size = E at *
      refine wpAnyH_ready (rs := [2]) (by kernel_rfl) (by simp) (AllReadyH.cons rfl (fun K hK => ?_) AllReadyH.nil)
      try simp only [List.getElem_toArray, List.getElem_cons_zero, List.getElem_cons_succ]
      refine if_wanted (by rfl) ?_
      refine wp_append_txt _ (.tmp 31) (.tmp 32) 22 rfl E 5 i0 (.int .u8 0) 1 Tryd.underlying22 HI.out.1 HI.out.2.1 HI.out.2.2.1 HI.out.2.2.2 rfl _ 1 (nums [1]) rfl ?e1 (fun _ => True) (some ⟨P, 0, none⟩) 32 32 x rfl ?e2 ?e3 ?e4 ?e5 ?_
      case e1 => exact HO5.out
      case e2 => exact txt_dig H5.out.1 HX.out.1
      case e3 => unfold maxLen; omega
      case e4 => omega
      case e5 => exact z6
      intro v5 v2 hown hg hat
      have HO6 : Hid (v2.ownsRow E 5 1 v5 33 (nums (1 :: x))) := Lib.hid (by simpa [nums] using hown)
      have HQ6 : Hid (Whole v2 Q 24 (nums y).toArray ∧ Below (B + 1) wr v2) := Lib.hid ⟨H5.out.2.1.grown hg (fun e => by have := (HO5.out.lt _ e.symm).1; omega), H5.out.2.2.grown hg (by omega) (fun k hk => by have := (HO5.out.lt k hk).1; omega)⟩
      have z7 : E ≤ v2.heap.size := Nat.le_trans z6 hg.size
      clear hown hg hat H5
      obtain ⟨q5, d5, rfl⟩ := row_form HO6.out
      refine hK.out _ _ trivial (fun hHeld => ?_)
      clear hK K
      try simp only [Act.put, List.getElem_toArray, List.getElem_cons_zero, List.getElem_cons_succ, List.setIfInBounds_toArray, List.set_cons_zero, List.set_cons_succ]
      refine wpAnyH_ready (rs := [4]) (by kernel_rfl) (by simp) (AllReadyH.cons rfl (fun K hK => ?_) AllReadyH.nil)
      try simp only [List.getElem_toArray, List.getElem_cons_zero, List.getElem_cons_succ]
      refine if_wanted (by rfl) ?_
      refine wp_append_txt _ (.tmp 33) (.tmp 34) 22 rfl E 5 i0 (.int .u8 0) 1 Tryd.underlying22 HI.out.1 HI.out.2.1 HI.out.2.2.1 HI.out.2.2.2 rfl _ 33 (nums (1 :: x)) rfl ?g1 (fun _ => True) (some ⟨Q, 0, none⟩) 32 32 y rfl ?g2 ?g3 ?g4 ?g5 ?_
      case g1 => exact HO6.out
      case g2 => exact txt_dig HQ6.out.1 HX.out.2.1
      case g3 => unfold maxLen; omega
      case g4 => omega
      case g5 => exact z7
      intro v6 v3 hown hg hat
      have HO7 : Hid (v3.ownsRow E 5 1 v6 65 (nums (1 :: (x ++ y)))) := Lib.hid (by simpa [nums] using hown)
      have HB7 : Hid (Below (B + 1) wr v3) := Lib.hid (HQ6.out.2.grown hg (by omega) (fun k hk => by have := (HO6.out.lt k hk).1; omega))
      have z8 : E ≤ v3.heap.size := Nat.le_trans z7 hg.size
      clear hown hg hat HQ6
      obtain ⟨q6, d6, rfl⟩ := row_form HO7.out
      refine hK.out _ _ trivial (fun hHeld => ?_)
      clear hK K
      try simp only [Act.put, List.getElem_toArray, List.getElem_cons_zero, List.getElem_cons_succ, List.setIfInBounds_toArray, List.set_cons_zero, List.set_cons_succ]
      refine wpAnyH_ready (rs := [5]) (by kernel_rfl) (by simp) (AllReadyH.cons rfl (fun K hK => ?_) AllReadyH.nil)
      try simp only [List.getElem_toArray, List.getElem_cons_zero, List.getElem_cons_succ]
      go_simp
      go_at_call 11
      refine (rsum_any (rrow_txt HO7.out (byt_cons (by omega) (by omega) (byt_append HX.out.1.2 HX.out.2.1.2))) (by omega)).mono ?_
      rintro e v4 ⟨rfl, hb4⟩
      rw [← HT.out]
      have HB8 : Hid (Below (B + 1) wr v4) := Lib.hid (HB7.out.trans (hb4.mono (by omega)))
      clear hb4
      go_wp2_with fail
      refine hK.out _ _ trivial (fun hHeld => ?_)
      clear hK K
      try simp only [Act.put, List.getElem_toArray, List.getElem_cons_zero, List.getElem_cons_succ, List.setIfInBounds_toArray, List.set_cons_zero, List.set_cons_succ]
      have KB : Hid (Whole v4 B 24 (nums (zs 32)).toArray) := Lib.hid (H0.out.1.below HB8.out (by omega))
      have HBL : Hid (Below B w v4) := Lib.hid (H0.out.2.trans (HB8.out.mono (by omega)))
      have hNe := all_nums res
      have HNS5 := Lib.hid (row_size HX.out.2.2)
      have HZ32 : Hid ((nums (zs 32)).toArray.size = 32) := Lib.hid rfl
      with_reducible generalize hN : (nums res).toArray = N at *
      refine wpAnyH_ready (rs := [6]) (by kernel_rfl) (by simp) (AllReadyH.cons rfl (fun K hK => ?_) AllReadyH.nil)
      try simp only [List.getElem_toArray, List.getElem_cons_zero, List.getElem_cons_succ]
      refine if_wanted (by rfl) ?_
      refine wp_store_row _ (.tmp 2) (.tmp 36) rfl B N rfl rfl 24 _ KB.out (by rw [HNS5.out]; exact info32) (by rw [HZ32.out, HNS5.out]) hNe ?_
      refine hK.out _ _ trivial (fun hHeld => ?_)
      clear hK K
      try simp only [Act.put, List.getElem_toArray, List.getElem_cons_zero, List.getElem_cons_succ, List.setIfInBounds_toArray, List.set_cons_zero, List.set_cons_succ]
      refine wpAnyH_done (by kernel_rfl) ?_ _
      go_wp2_with fail
      refine bodyPost_ret (results_one_cell rfl _ _ _ _ rfl (run_loadVar_row _ _ _ _ _ (0, 0) _ (KB.out.row N) und32 rfl (by rw [HNS5.out]; exact info32))) rfl ?_
      exact ⟨by rw [HRES.out, hN], by rw [HBE.out]; exact below_row HBL.out (Nat.le_refl _) N⟩
end Go.Proofs.YtndiojiphoomgaaDoor
