/-
  The walks of the package's Draw, Order and Turn: what is asked of them (Rnd).
-/
import Derived.Test.YtanojjcbbjgefaaTe
import Derived.RegionTactic
import Derived.ChangeAlike
import Derived.BigRegion
import Derived.WalkMore
import Derived.ScopeJumps
namespace Go.Proofs.Ytanojjcbbjgefaa
open Go.RowKit Go.Great
set_option maxRecDepth 20000
set_option linter.unusedVariables false
set_option linter.unusedSimpArgs false
open Rn
/-- So many draws, one behind the other. -/
def drs : Nat → Int → Int
  | 0, d => d
  | k + 1, d => drs k (dr d)
theorem mix_snd : ∀ (k : Nat) (l : List Int) (d : Int), (mix k l d).2 = drs k d
  | 0, _, _ => rfl
  | k + 1, l, d => mix_snd k _ (dr d)
theorem drs_next : ∀ (k : Nat) (d : Int), dr (drs k d) = drs (k + 1) d
  | 0, _ => rfl
  | k + 1, d => drs_next k (dr d)
theorem drs_in : ∀ (k : Nat) (d : Int), U64 d → U64 (drs k d)
  | 0, _, h => h
  | k + 1, d, _ => drs_in k (dr d) (dr_in d)
theorem ord_snd {n me d : Int} (h : ¬ Bad n me) : (ord n me d).2 = drs (n.toNat - 2) d := by
  unfold ord
  rw [if_neg h, mix_snd]
theorem draw_any (d : Int) (w : World) : Calls Try.prog 11 #[.int .u64 d] w fun e w' => e = .returned (.int .u64 (dr d)) ∧ Below w.heap.size w w' := by
  have e1 : IntKind.u64.wrap (IntKind.u64.wrap (6364136223846793005 * d) + 1442695040888963407) = dr d := by
    rw [IntKind.wrap_u64, IntKind.wrap_u64]
    unfold dr
    rw [Int.emod_add_emod, Int.mul_comm]
  obtain ⟨m, hm⟩ : ∃ m, IntKind.u64.wrap (6364136223846793005 * d) = m := ⟨_, rfl⟩
  rw [hm] at e1
  obtain ⟨r, hr⟩ : ∃ r, dr d = r := ⟨_, rfl⟩
  rw [hr] at e1 ⊢
  clear hr
  go_enter Try.func11, Try.ntmps11
  go_wp2
  go_ret
  exact ⟨rfl, Below.refl _ _⟩
theorem bad_of {n me : Int} (h1 : 0 ≤ me) (h2 : me < n) (h3 : n ≤ 9) : ¬ Bad n me := by unfold Bad; omega
theorem maybe_any (n me : Int) (w : World) : Calls Try.prog 15 #[.int .i64 n, .int .i64 me] w fun e w' => e = .returned (.bool (!decide (Bad n me))) ∧ Below w.heap.size w w' := by
  obtain ⟨b, hb⟩ : ∃ b, (!decide (Bad n me)) = b := ⟨_, rfl⟩
  rw [hb]
  have HB := Lib.hid hb
  clear hb
  by_cases z1 : me ≥ 0
  case neg =>
    have HE : Hid (b = false) := Lib.hid (by rw [← HB.out, decide_eq_true (show Bad n me by unfold Bad; omega)]; rfl)
    go_enter Try.func15, Try.ntmps15
    go_wp2
    go_ret
    exact ⟨ret_bool HE.out.symm, Below.refl _ _⟩
  by_cases z2 : me < n
  case neg =>
    have HE : Hid (b = false) := Lib.hid (by rw [← HB.out, decide_eq_true (show Bad n me by unfold Bad; omega)]; rfl)
    go_enter Try.func15, Try.ntmps15
    go_wp2
    go_ret
    exact ⟨ret_bool HE.out.symm, Below.refl _ _⟩
  by_cases z3 : n ≤ 9
  · have HE : Hid (b = true) := Lib.hid (by rw [← HB.out]; simp; exact bad_of z1 z2 z3)
    go_enter Try.func15, Try.ntmps15
    go_wp2
    go_ret
    exact ⟨ret_bool HE.out.symm, Below.refl _ _⟩
  · have HE : Hid (b = false) := Lib.hid (by rw [← HB.out, decide_eq_true (show Bad n me by unfold Bad; omega)]; rfl)
    go_enter Try.func15, Try.ntmps15
    go_wp2
    go_ret
    exact ⟨ret_bool HE.out.symm, Below.refl _ _⟩
theorem behind_any (k : Nat) (hk : 1 ≤ k) (hk9 : k ≤ 9) (d : Int) (w : World) : Calls Try.prog 18 #[.int .i64 (k : Int), .int .u64 d] w fun e w' => e = .returned (.int .u64 (drs (k - 1) d)) ∧ Below w.heap.size w w' := by
  obtain ⟨p, rfl⟩ : ∃ p, k = p + 1 := ⟨k - 1, by omega⟩
  rw [Nat.add_sub_cancel]
  obtain ⟨K, hK⟩ : ∃ K : Int, ((p + 1 : Nat) : Int) = K := ⟨_, rfl⟩
  have e1 : IntKind.i64.wrap (K - 1) = (p : Int) := by rw [IntKind.wrap_i64]; omega
  rw [hK]
  clear hK
  go_enter Try.func18, Try.ntmps18
  go_wp2
  go_loopw [1, 7] (fun v i wr => ∃ j : Nat, j ≤ p ∧ i = .int .i64 (j : Int) ∧ v = .int .u64 (drs j d) ∧ Hid (Below w.heap.size w wr)) (fun _ i _ => p - (intOf i).toNat)
  case atStart => exact ⟨0, Nat.zero_le _, rfl, rfl, Lib.hid (Below.refl _ _)⟩
  case round =>
    obtain ⟨j, hj, rfl, rfl, HJ⟩ := hrel
    by_cases hlt : j < p
    · have q1 : (j : Int) < (p : Int) := by omega
      go_wp2_with fail
      refine (draw_any (drs j d) wr).mono ?_
      rintro e w5 ⟨rfl, hb5⟩
      have H5 := Lib.hid (HJ.out.trans (hb5.mono HJ.out.size))
      rw [drs_next]
      clear hb5
      go_wp2
      exact ⟨⟨j + 1, by omega, by go_num, rfl, H5⟩, by simp [intOf]; omega⟩
    · obtain rfl : j = p := by omega
      have q1 : ¬ ((j : Int) < (j : Int)) := by omega
      go_wp2
      go_ret
      exact ⟨rfl, HJ.out⟩
set_option maxHeartbeats 4000000 in
theorem others_any (N : Nat) (me : Int) (h0 : 0 ≤ me) (h1 : me < (N : Int)) (h9 : N ≤ 9) (w : World) : Calls Try.prog 16 #[.int .i64 (N : Int), .int .i64 me] w fun e w' => ∃ a c, e = .returned (.slice a (N - 1) c) ∧ Nw w' w.heap.size a (N - 1) c (oth N me) ∧ Below w.heap.size w w' := by
  obtain ⟨p, rfl⟩ : ∃ p, N = p + 1 := ⟨N - 1, by omega⟩
  obtain ⟨K, hK⟩ : ∃ K : Int, ((p + 1 : Nat) : Int) = K := ⟨_, rfl⟩
  have e1 : IntKind.i64.wrap (K - 1) = (p : Int) := by rw [IntKind.wrap_i64]; omega
  have HO : Hid ((oth (p + 1) me).length = p) := Lib.hid (by rw [oth_len _ _ h0, if_pos (by omega)]; omega)
  have HB : Hid (p + 1 ≤ 9 ∧ 0 ≤ me ∧ me < ((p + 1 : Nat) : Int)) := Lib.hid ⟨h9, h0, h1⟩
  obtain ⟨i0, hi0, hz0, hz1, hz2⟩ := info_parts int_info
  obtain ⟨w0, hrun, hown, hgr⟩ := run_make_own (P := Try.prog) w w.heap.size 24 3 i0 (.int .i64 0) 1 Try.underlying24 hi0 hz0 hz1 .i64 .i64 p (by rw [hz2]; omega) (by unfold maxLen; omega) (Nat.le_refl _)
  generalize hBe : w.heap.size = B at *
  have HBE := Lib.hid hBe
  have H0 : Hid (Nw w0 B (some ⟨B, 0, none⟩) 0 p [] ∧ Below B w w0) := Lib.hid ⟨⟨hown, (fun x hx => by cases hx), rfl⟩, (Below.refl _ _).grown hgr (by omega) (fun b hb => by cases hb)⟩
  have hp10 : p < 10 := by omega
  clear hown hgr h0 h1 h9 hi0 hz0 hz1 hz2 hBe
  rw [Nat.add_sub_cancel, hK]
  have HK := Lib.hid hK
  clear hK
  go_enter Try.func16, Try.ntmps16
  go_wp2
  go_loopw [5, 6, 11] (fun v _ i wr => ∃ (j m c : Nat) (a : Option Addr), j ≤ p + 1 ∧ v = .slice a m c ∧ i = .int .i64 (j : Int) ∧ Hid (Nw wr B a m c (oth j me) ∧ Below B w wr)) (fun _ _ i _ => p + 1 - (intOf i).toNat)
  case atStart => exact ⟨0, 0, p, some ⟨B, 0, none⟩, Nat.zero_le _, rfl, rfl, H0⟩
  case round =>
    obtain ⟨j, m, c, a, hj, rfl, rfl, HJ⟩ := hrel
    have sj : B ≤ wr.heap.size := Nat.le_trans (by rw [HBE.out]; exact Nat.le_refl _) HJ.out.2.size
    have hj9 : j ≤ 9 := by have h3 := HB.out; omega
    have hm9 : m ≤ 9 := by have h1 := HJ.out.1.len; have h2 := oth_le j me; have h3 := HB.out; omega
    by_cases hlt : j < p + 1
    · have q1 : (j : Int) < K := by have := HK.out; omega
      by_cases z : (j : Int) = me
      · have q2 : ((j : Int) != me) = false := by simp [z]
        have HS : Hid (oth (j + 1) me = oth j me) := Lib.hid (by simp only [oth]; rw [if_pos z])
        clear z
        go_wp2
        exact ⟨⟨j + 1, m, c, a, by omega, rfl, by go_num, Lib.hid (by rw [HS.out]; exact HJ.out)⟩, by simp [intOf]; omega⟩
      · have q2 : ((j : Int) != me) = true := by simp [z]
        have HS : Hid (oth (j + 1) me = oth j me ++ [(j : Int)]) := Lib.hid (by simp only [oth]; rw [if_neg z])
        clear z
        go_wp2_with (at_builtin; refine wpList_append_one rfl (.tmp 17) (.tmp 19) 24 3 (.int .i64 0) 8 rfl Try.underlying24 int_info rfl (by omega) B _ m (ints (oth j me)) rfl (own_keepN HJ.out.1.own (fun b hq => Below.heap_alloc wr _ b (HJ.out.1.own.lt b hq).2)) wr.heap.size 3 (.int .i64 (j : Int)) rfl (Whole.new _ _ _) rfl (by omega) (by simp; omega) ?_)
        intro v5 w5 hown hg _
        obtain ⟨a5, c5, rfl, h5⟩ := HJ.out.1.add (by have := HB.out; constructor <;> omega) hown
        have HJ5 : Hid (Nw w5 B a5 (m + 1) c5 (oth (j + 1) me) ∧ Below B w w5) := Lib.hid ⟨by rw [HS.out]; exact h5, (HJ.out.2.alloc sj _).grown hg (by simp; omega) (fun k hk => (HJ.out.1.own.lt k hk).1)⟩
        clear hown hg h5
        go_wp2
        exact ⟨⟨j + 1, m + 1, c5, a5, by omega, rfl, by go_num, HJ5⟩, by simp [intOf]; omega⟩
    · obtain rfl : j = p + 1 := by omega
      have q1 : ¬ (((p + 1 : Nat) : Int) < K) := by have := HK.out; omega
      have hm : m = p := by rw [← HJ.out.1.len]; exact HO.out
      subst hm
      go_wp2
      go_ret
      exact ⟨a, c, rfl, HJ.out.1, HJ.out.2⟩
set_option maxHeartbeats 4000000 in
/-- Two members change places. -/
theorem change_any {w : World} {B R : Nat} {a : Option Addr} {n c : Nat} {l : List Int} (hR : Whole w R 24 #[.slice a n c]) (hw : Nw w B a n c l) {i j : Nat} (hi : i < n) (hj : j < n) (hBR : B ≤ R) (h9 : n ≤ 9) :
    Calls Try.prog 17 #[.int .i64 (i : Int), .int .i64 (j : Int), .pointer (some ⟨R, 0, none⟩)] w fun e w' => e = .returned (.tuple #[]) ∧ Whole w' R 24 #[.slice a n c] ∧ Nw w' B a n c (swap l i j) ∧ Below B w w' := by
  obtain ⟨g, rfl, hBg, hgl, hmc, hcell⟩ := hw.form (by omega)
  have hne : R ≠ g := fun e => by
    subst e
    rcases hw.own.2 with ⟨h1, h2⟩ | ⟨g', cap', cur, hv, hb, hg, _⟩
    · cases h1
    · injection hv with e1 e2 e3
      injection e1 with e1
      injection e1 with e1
      subst e1
      have h2 : w.heap[R]? = _ := hR
      rw [hg] at h2
      injection h2 with h2
      injection h2 with _ h2
      exact absurd h2 (by decide)
  obtain ⟨x, hx⟩ : ∃ x, l.getD i 0 = x := ⟨_, rfl⟩
  obtain ⟨y, hy⟩ : ∃ y, l.getD j 0 = y := ⟨_, rfl⟩
  have ci := (hcell i hi).1
  have cj := (hcell j hj).1
  have fi := (hcell i hi).2
  have fj := (hcell j hj).2
  rw [hx] at ci
  rw [hy] at cj
  have cr : w.cell? ⟨R, 0, none⟩ = some (.slice (some ⟨g, 0, none⟩) n c) := hR.cell 0
  have qi : (i : Int) < (n : Int) := by omega
  have qj : (j : Int) < (n : Int) := by omega
  have hin : In64 x ∧ In64 y := by rw [← hx, ← hy]; exact ⟨hw.ns.in64 i, hw.ns.in64 j⟩
  have h1 := hw.set (k := i) (x := y) hi hin.2
  have h2 := h1.set (k := j) (x := x) hj hin.1
  have HE : Hid (Whole ((w.setCell ⟨g, i, none⟩ (.int .i64 y)).setCell ⟨g, j, none⟩ (.int .i64 x)) R 24 #[.slice (some ⟨g, 0, none⟩) n c] ∧ Nw ((w.setCell ⟨g, i, none⟩ (.int .i64 y)).setCell ⟨g, j, none⟩ (.int .i64 x)) B (some ⟨g, 0, none⟩) n c (swap l i j) ∧ Below B w ((w.setCell ⟨g, i, none⟩ (.int .i64 y)).setCell ⟨g, j, none⟩ (.int .i64 x))) := Lib.hid
    ⟨(hR.far (p := ⟨g, i, none⟩) hne _).far (p := ⟨g, j, none⟩) hne _, by unfold swap; rw [hx, hy]; exact h2, ((Below.refl _ _).setCell (p := ⟨g, i, none⟩) hBg _).setCell (p := ⟨g, j, none⟩) hBg _⟩
  obtain ⟨z, hz⟩ := cell?_setCell_some (w := w) (p := ⟨g, i, none⟩) (x := .int .i64 y) (q := ⟨g, j, none⟩) (v := .int .i64 y) cj
  clear hx hy hcell hw hR h1 h2 hin
  go_enter Try.func17, Try.ntmps17
  go_wp2
  go_region
  generalize (w.setCell ⟨g, i, none⟩ (.int .i64 y)).setCell ⟨g, j, none⟩ (.int .i64 x) = w2 at HE ⊢
  go_wp2
  go_end0
  exact ⟨rfl, HE.out.1, HE.out.2.1.below ((Below.refl _ _).drew), HE.out.2.2.drew⟩
set_option maxHeartbeats 4000000 in
theorem order_any (n me d : Int) (w : World) (hn : In64 n) (hme : In64 me) (hd : U64 d) : Calls Try.prog 8 #[.int .i64 n, .int .i64 me, .int .u64 d] w (OrdQ w (ord n me d).1 (ord n me d).2) := by
  have hmf : ∀ (fn : Fn) (first cap : Array Value) (w : World), (Instr.makeFunc fn first cap).run Try.prog w = .ok (.func fn first cap) w := fun _ _ _ _ => rfl
  have HI := Lib.hid (And.intro hn (And.intro hme hd))
  clear hn hme hd
  by_cases hb : Bad n me
  · rw [ord_bad hb]
    have HB := Lib.hid hb
    clear hb
    go_enter Try.func8, Try.ntmps8
    go_wp2_with fail
    refine (maybe_any n me w).mono ?_
    rintro e w1 ⟨rfl, hb1⟩
    have HB1 := Lib.hid hb1
    clear hb1
    rw [decide_eq_true HB.out]
    go_wp2
    go_ret2
    exact ⟨none, 0, 0, rfl, Nw.nil _ _, HB1.out⟩
  obtain ⟨N, hN⟩ : ∃ N : Nat, n = (N : Int) := ⟨n.toNat, by unfold Bad at hb; omega⟩
  subst hN
  obtain ⟨R, hR⟩ : ∃ R, ord (N : Int) me d = R := ⟨_, rfl⟩
  rw [hR]
  have HR : Hid (mix (N - 2) (oth N me) d = R) := Lib.hid (by rw [← hR]; unfold ord; rw [if_neg hb]; simp)
  have HB : Hid (¬ Bad (N : Int) me ∧ 1 ≤ N ∧ N ≤ 9 ∧ 0 ≤ me ∧ me < (N : Int)) := Lib.hid ⟨hb, by unfold Bad at hb; omega⟩
  clear hR hb
  go_enter Try.func8, Try.ntmps8
  go_wp2_with fail
  refine (maybe_any (N : Int) me w).mono ?_
  rintro e w1 ⟨rfl, hb1⟩
  have HB1 := Lib.hid hb1
  clear hb1
  rw [decide_eq_false HB.out.1]
  go_wp2_with fail
  refine (others_any N me HB.out.2.2.2.1 HB.out.2.2.2.2 HB.out.2.2.1 w1).mono ?_
  rintro e w2 ⟨a, c, rfl, hw2, hb2⟩
  have H2 := Lib.hid (And.intro (hw2.mono HB1.out.size) (HB1.out.trans (hb2.mono HB1.out.size)))
  clear hw2 hb2
  obtain ⟨m, hm⟩ : ∃ m, N - 1 = m := ⟨_, rfl⟩
  have HM := Lib.hid hm
  rw [hm] at H2 ⊢
  clear hm
  have e1 : IntKind.i64.wrap ((m : Int) - 1) = (m : Int) - 1 := by rw [IntKind.wrap_i64]; have := HM.out; have := HB.out.2.2.1; omega
  have hm9 : m ≤ 9 := by have := HM.out; have := HB.out.2.2.1; omega
  go_wp2
  clear e1
  have hk := Whole.new w2 24 #[Value.slice a m c]
  obtain ⟨G, hG⟩ : ∃ G, w2.heap.size = G := ⟨_, rfl⟩
  obtain ⟨w3, hw3⟩ : ∃ w3, w2.alloc (.cells #[Value.slice a m c] 24) = w3 := ⟨_, rfl⟩
  have hn3 : Nw w3 w.heap.size a m c (oth N me) := by rw [← hw3]; exact H2.out.1.below (below_alloc w2 _)
  have hb3 : Below w.heap.size w w3 := by rw [← hw3]; exact H2.out.2.trans ((below_alloc w2 _).mono H2.out.2.size)
  have HG : Hid (w.heap.size ≤ G) := Lib.hid (by rw [← hG]; exact H2.out.2.size)
  rw [hw3, hG] at hk
  rw [hw3, hG]
  have H0 : Hid (mix (m - 1) (oth N me) d = R ∧ Nw w3 w.heap.size a m c (oth N me) ∧ Whole w3 G 24 #[Value.slice a m c] ∧ Below w.heap.size w w3 ∧ U64 d) := Lib.hid ⟨by rw [← HM.out, show N - 1 - 1 = N - 2 by omega]; exact HR.out, hn3, hk, hb3, HI.out.2.2⟩
  clear hk hn3 hb3 hw3 hG HR HB1 H2
  go_loopw [2, 10] (fun dv i w4 => ∃ (k : Nat) (dd : Int) (ll : List Int), k ≤ m ∧ i = .int .i64 ((k : Int) - 1) ∧ dv = .int .u64 dd ∧ Hid (mix (k - 1) ll dd = R ∧ Nw w4 w.heap.size a m c ll ∧ Whole w4 G 24 #[Value.slice a m c] ∧ Below w.heap.size w w4 ∧ U64 dd)) (fun _ i _ => (intOf i + 1).toNat)
  case atStart => exact ⟨m, d, oth N me, Nat.le_refl _, rfl, rfl, H0⟩
  case round =>
    clear H0
    obtain ⟨k, dd, ll, hk, rfl, rfl, HK⟩ := hrel
    by_cases hlt : 2 ≤ k
    · obtain ⟨p, hp⟩ : ∃ p, k = p + 1 := ⟨k - 1, by omega⟩
      subst hp
      have ei : ((p + 1 : Nat) : Int) - 1 = (p : Int) := by omega
      have q1 : (p : Int) > 0 := by omega
      have HS := Lib.hid (mix_step (show 1 ≤ p by omega) ll dd)
      obtain ⟨D, hD⟩ : ∃ D, dr dd = D := ⟨_, rfl⟩
      have HD : Hid (U64 D) := Lib.hid (by rw [← hD]; exact dr_in dd)
      rw [hD] at HS
      rw [ei]
      clear ei
      go_wp2_with fail
      refine (draw_any dd wr).mono ?_
      rintro e w5 ⟨rfl, hb5⟩
      rw [hD]
      have H5 := Lib.hid (And.intro (HK.out.2.1.below hb5) (And.intro (Whole.below HK.out.2.2.1 hb5 HK.out.2.2.1.lt) (HK.out.2.2.2.1.trans (hb5.mono HK.out.2.2.2.1.size))))
      clear hb5 hD
      go_wp2_with fail
      rw [pick_spelled HD.out p (by omega)]
      have hq := pick_le D p
      obtain ⟨q, hqq⟩ : ∃ q, pick D p = q := ⟨_, rfl⟩
      rw [hqq] at hq HS ⊢
      clear hqq
      refine (change_any H5.out.2.1 H5.out.1 (i := p) (j := q) (by omega) (by omega) HG.out (by omega)).mono ?_
      rintro e w6 ⟨rfl, hr6, hw6, hb6⟩
      have H6 : Hid (mix (p - 1) (swap ll p q) D = R ∧ Nw w6 w.heap.size a m c (swap ll p q) ∧ Whole w6 G 24 #[Value.slice a m c] ∧ Below w.heap.size w w6 ∧ U64 D) := Lib.hid ⟨by rw [← HS.out]; exact HK.out.1, hw6, hr6, H5.out.2.2.trans hb6, HD.out⟩
      clear hr6 hw6 hb6 HK H5 HS
      go_wp2
      exact ⟨⟨p, D, swap ll p q, by omega, by go_num, rfl, H6⟩, by simp [intOf] <;> omega⟩
    · have q1 : ¬ ((k : Int) - 1 > 0) := by omega
      have HE : Hid (R = (ll, dd)) := Lib.hid (by rw [← HK.out.1, show k - 1 = 0 by omega]; rfl)
      have cr := HK.out.2.2.1.cell 0
      go_wp2
      go_ret2
      rw [HE.out]
      exact ⟨a, m, c, rfl, HK.out.2.1, HK.out.2.2.2.1⟩
set_option maxHeartbeats 4000000 in
theorem turn_any (n me d t : Int) (w : World) (hn : In64 n) (hme : In64 me) (hd : U64 d) (ht : In64 t) : Calls Try.prog 13 #[.int .i64 n, .int .i64 me, .int .u64 d, .int .i64 t] w fun e w' => e = .returned (.int .i64 (trn n me d t)) ∧ Below w.heap.size w w' := by
  obtain ⟨r, hr⟩ : ∃ r, trn n me d t = r := ⟨_, rfl⟩
  rw [hr]
  have HI := Lib.hid (And.intro hn (And.intro hme (And.intro hd ht)))
  clear hn hme hd ht
  by_cases hb : Bad n me
  · have HB := Lib.hid hb
    have HE : Hid (r = -1) := Lib.hid (by rw [← hr]; unfold trn; rw [ord_bad hb]; exact if_pos (Or.inl rfl))
    clear hb hr
    go_enter Try.func13, Try.ntmps13
    go_wp2
    go_step3
    go_wp2_with fail
    refine (maybe_any n me w).mono ?_
    rintro e w1 ⟨rfl, hb1⟩
    have HB1 := Lib.hid hb1
    clear hb1
    rw [decide_eq_true HB.out]
    go_wp2
    try rw [Exit.noGoto_ret]
    go_ret
    exact ⟨ret_i64 HE.out.symm, HB1.out⟩
  have HB := Lib.hid hb
  by_cases z0 : n = 1
  · have HE : Hid (r = -1) := Lib.hid (by rw [← hr]; unfold trn; refine if_pos (Or.inl (List.eq_nil_of_length_eq_zero ?_)); rw [ord_len hb, z0]; rfl)
    have q0 : (n == 1) = true := by simp [z0]
    clear hb hr z0
    go_enter Try.func13, Try.ntmps13
    go_wp2
    go_step3
    go_wp2_with fail
    refine (maybe_any n me w).mono ?_
    rintro e w1 ⟨rfl, hb1⟩
    have HB1 := Lib.hid hb1
    clear hb1
    rw [decide_eq_false HB.out]
    go_wp2
    try rw [Exit.noGoto_ret]
    go_ret
    exact ⟨ret_i64 HE.out.symm, HB1.out⟩
  have q0 : (n == 1) = false := by simp [z0]
  by_cases z1 : t < 0
  · have HE : Hid (r = -1) := Lib.hid (by rw [← hr]; unfold trn; exact if_pos (Or.inr (Or.inl z1)))
    clear hb hr z0
    go_enter Try.func13, Try.ntmps13
    go_wp2
    go_step3
    go_wp2_with fail
    refine (maybe_any n me w).mono ?_
    rintro e w1 ⟨rfl, hb1⟩
    have HB1 := Lib.hid hb1
    clear hb1
    rw [decide_eq_false HB.out]
    go_wp2
    try rw [Exit.noGoto_ret]
    go_ret
    exact ⟨ret_i64 HE.out.symm, HB1.out⟩
  by_cases z2 : t > 1048576
  · have HE : Hid (r = -1) := Lib.hid (by rw [← hr]; unfold trn; exact if_pos (Or.inr (Or.inr z2)))
    clear hb hr z0
    go_enter Try.func13, Try.ntmps13
    go_wp2
    go_step3
    go_wp2_with fail
    refine (maybe_any n me w).mono ?_
    rintro e w1 ⟨rfl, hb1⟩
    have HB1 := Lib.hid hb1
    clear hb1
    rw [decide_eq_false HB.out]
    go_wp2
    try rw [Exit.noGoto_ret]
    go_ret
    exact ⟨ret_i64 HE.out.symm, HB1.out⟩
  obtain ⟨N, hN⟩ : ∃ N : Nat, n = (N : Int) := ⟨n.toNat, by unfold Bad at hb; omega⟩
  subst hN
  obtain ⟨T, hT⟩ : ∃ T : Nat, t = (T : Int) := ⟨t.toNat, by omega⟩
  subst hT
  have hN9 : 2 ≤ N ∧ N ≤ 9 := by unfold Bad at hb; omega
  obtain ⟨m, hm⟩ : ∃ m, N - 1 = m := ⟨_, rfl⟩
  have HM : Hid (N - 1 = m ∧ 1 ≤ m ∧ m ≤ 8 ∧ T ≤ 1048576) := Lib.hid (by omega)
  have e1 : IntKind.i64.wrap ((N : Int) - 1) = (m : Int) := by rw [IntKind.wrap_i64]; omega
  have hk : (N : Int).toNat - 1 = m := by omega
  have HE : Hid (∀ q s, q * m + s = T → s < m → r = (row (N : Int) me d q).getD s 0) := Lib.hid (fun q s h1 h2 => by
    rw [← hr, trn_at hb (by omega) (by omega) (by omega), hk]
    have e1 : ((T : Nat) : Int).toNat = T := by omega
    rw [e1, ← h1, Nat.mul_comm q m, Nat.mul_add_div (by omega), Nat.div_eq_of_lt h2, Nat.add_zero, Nat.mul_add_mod, Nat.mod_eq_of_lt h2])
  have HL : Hid (∀ q, (row (N : Int) me d q).length = m) := Lib.hid (fun q => by rw [← hk]; exact ord_len hb)
  have HD : Hid (∀ q, drs (m - 1) (itd (N : Int) me q d) = itd (N : Int) me (q + 1) d) := Lib.hid (fun q => by rw [← itd_succ, ord_snd hb]; rw [show (N : Int).toNat - 2 = m - 1 by omega])
  have HJ0 : Hid (Below w.heap.size w w) := Lib.hid (Below.refl _ _)
  clear hb hr z0 hm hN9 hk
  go_enter Try.func13, Try.ntmps13
  go_wp2
  refine wp_scope_jumps 0 (fun a' w' => ∃ (q s : Nat) (D : Int) (u10 u11 u12 u13 u14 u15 u16 u17 u18 u19 u20 u21 u22 u23 u24 u25 u26 u27 u28 u29 u30 u31 u32 u33 u34 u35 u36 u37 u38 u39 u40 u41 u42 u43 u44 u45 u46 u47 u48 u49 : Value), q * m + s = T ∧ D = itd (N : Int) me q d ∧ Hid (Below w.heap.size w w') ∧ a' = { tmps := #[.int .i64 (N : Int), .int .i64 me, .int .u64 D, .int .i64 (s : Int), undef, undef, undef, undef, .int .i64 0, .int .i64 (m : Int), u10, u11, u12, u13, u14, u15, u16, u17, u18, u19, u20, u21, u22, u23, u24, u25, u26, u27, u28, u29, u30, u31, u32, u33, u34, u35, u36, u37, u38, u39, u40, u41, u42, u43, u44, u45, u46, u47, u48, u49], defers := [] }) (fun a' _ => (intOf (a'.tmps.getD 3 undef)).toNat) rfl ?_ ?_
  · go_wp2_with fail
    refine (maybe_any (N : Int) me w).mono ?_
    rintro e w1 ⟨rfl, hb1⟩
    have HB1 := Lib.hid hb1
    clear hb1
    rw [decide_eq_false HB.out]
    go_wp2
    go_step3
    have HS : Hid (0 * m + T = T) := Lib.hid (by omega)
    have HT : Hid (T ≤ 1048576) := Lib.hid (by have := HM.out; omega)
    by_cases hge : m ≤ T
    · have q1 : (T : Int) ≥ (m : Int) := by omega
      have e2 : IntKind.i64.wrap ((T : Int) - (m : Int)) = ((T - m : Nat) : Int) := by rw [IntKind.wrap_i64]; have := HM.out; have := HS.out; have := HT.out; omega
      go_wp2_with fail
      refine (behind_any m HM.out.2.1 (by have := HM.out; omega) _ w1).mono ?_
      rintro e w2 ⟨rfl, hb2⟩
      rw [show drs (m - 1) d = itd (N : Int) me (0 + 1) d from HD.out 0]
      have H2 := Lib.hid (HB1.out.trans (hb2.mono HB1.out.size))
      clear hb2
      go_wp2
      go_step3
      exact ⟨rfl, ⟨0 + 1, T - m, itd (N : Int) me (0 + 1) d, _, _, _, _, _, _, _, _, _, _, _, _, _, _, _, _, _, _, _, _, _, _, _, _, _, _, _, _, _, _, _, _, _, _, _, _, _, _, _, _, by rw [Nat.add_mul]; have := HS.out; omega, rfl, H2, rfl⟩⟩
    · have q1 : ¬ ((T : Int) ≥ (m : Int)) := by omega
      go_wp2_with fail
      refine (order_any (N : Int) me d w1 HI.out.1 HI.out.2.1 HI.out.2.2.1).mono ?_
      rintro e w2 ⟨a2, n2, c2, rfl, hm2, hb2⟩
      have hl2 : n2 = m := by rw [← hm2.len]; exact HL.out 0
      subst hl2
      obtain ⟨g, rfl, _, _, _, hcell⟩ := hm2.form (by omega)
      have hx := HE.out 0 T HS.out (by omega)
      have c1 := (hcell T (by omega)).1
      have c1' : w2.cell? ⟨g, T, none⟩ = some (.int .i64 r) := by rw [hx]; exact c1
      have H2 := Lib.hid (HB1.out.trans (hb2.mono HB1.out.size))
      clear hcell hx c1 hm2 hb2
      go_wp2
      try simp only [Exit.jump]
      go_ret
      exact ⟨rfl, H2.out⟩
  · rintro a' wr ⟨q, s, D, u10, u11, u12, u13, u14, u15, u16, u17, u18, u19, u20, u21, u22, u23, u24, u25, u26, u27, u28, u29, u30, u31, u32, u33, u34, u35, u36, u37, u38, u39, u40, u41, u42, u43, u44, u45, u46, u47, u48, u49, hs, rfl, HW, rfl⟩
    have HS := Lib.hid hs
    have HT : Hid (s ≤ 1048576) := Lib.hid (by have := HM.out; have : 0 ≤ q * m := Nat.zero_le _; omega)
    clear hs z1 z2 q0 e1
    by_cases hge : m ≤ s
    · have q1 : (s : Int) ≥ (m : Int) := by omega
      have e2 : IntKind.i64.wrap ((s : Int) - (m : Int)) = ((s - m : Nat) : Int) := by rw [IntKind.wrap_i64]; have := HM.out; have := HS.out; have := HT.out; omega
      go_wp2_with fail
      refine (behind_any m HM.out.2.1 (by have := HM.out; omega) _ wr).mono ?_
      rintro e w2 ⟨rfl, hb2⟩
      rw [HD.out q]
      have H2 := Lib.hid (HW.out.trans (hb2.mono HW.out.size))
      clear hb2
      go_wp2
      go_step3
      exact ⟨rfl, ⟨q + 1, s - m, itd (N : Int) me (q + 1) d, _, _, _, _, _, _, _, _, _, _, _, _, _, _, _, _, _, _, _, _, _, _, _, _, _, _, _, _, _, _, _, _, _, _, _, _, _, _, _, _, by rw [Nat.add_mul]; have := HS.out; omega, rfl, H2, rfl⟩, by simp [intOf]; have := HM.out; omega⟩
    · have q1 : ¬ ((s : Int) ≥ (m : Int)) := by omega
      go_wp2_with fail
      refine (order_any (N : Int) me (itd (N : Int) me q d) wr HI.out.1 HI.out.2.1 (itd_in (n := (N : Int)) (me := me) q HI.out.2.2.1)).mono ?_
      rintro e w2 ⟨a2, n2, c2, rfl, hm2, hb2⟩
      have hl2 : n2 = m := by rw [← hm2.len]; exact HL.out q
      subst hl2
      obtain ⟨g, rfl, _, _, _, hcell⟩ := hm2.form (by omega)
      have hx := HE.out q s HS.out (by omega)
      have c1 := (hcell s (by omega)).1
      have c1' : w2.cell? ⟨g, s, none⟩ = some (.int .i64 r) := by rw [hx]; exact c1
      have H2 := Lib.hid (HW.out.trans (hb2.mono HW.out.size))
      clear hcell hx c1 hm2 hb2
      go_wp2
      try simp only [Exit.jump]
      go_ret
      exact ⟨rfl, H2.out⟩
/-- The package's functions answer as they are asked to. -/
theorem rnd : Rnd := ⟨fun d w _ => draw_any d w, order_any, turn_any⟩
end Go.Proofs.Ytanojjcbbjgefaa
