/-
  The walks of the document's Draw and Order.
-/
import Derived.Test.YtanojjcbbjgefaaTb
namespace Go.Proofs.Ytanojjcbbjgefaa
open Go.RowKit Go.Great
set_option maxRecDepth 20000
set_option linter.unusedVariables false
set_option linter.unusedSimpArgs false
open Rn
theorem rdraw_any (d : Int) (w : World) : Calls Try.prog 12 #[.int .u64 d] w fun e w' => e = .returned (.int .u64 (dr d)) ∧ Below w.heap.size w w' := by
  have e1 : IntKind.u64.wrap (IntKind.u64.wrap (d * 6364136223846793005) + 1442695040888963407) = dr d := by
    rw [IntKind.wrap_u64, IntKind.wrap_u64]
    unfold dr
    rw [Int.emod_add_emod]
  obtain ⟨m, hm⟩ : ∃ m, IntKind.u64.wrap (d * 6364136223846793005) = m := ⟨_, rfl⟩
  rw [hm] at e1
  obtain ⟨r, hr⟩ : ∃ r, dr d = r := ⟨_, rfl⟩
  rw [hr] at e1 ⊢
  clear hr
  go_enter Try.func12, Try.ntmps12
  go_wp2
  go_ret
  exact ⟨rfl, Below.refl _ _⟩
/-- What the walk spells for the place that is drawn. -/
theorem pick_spelled {D : Int} (h : U64 D) (p : Nat) (hp : p ≤ 100) : wrap64 ((D / 8589934592).tmod ((p : Int) + 1)) = ((pick D p : Nat) : Int) := by
  have h0 : 0 ≤ D / 8589934592 := Int.ediv_nonneg h.1 (by decide)
  rw [Int.tmod_eq_emod_of_nonneg h0]
  have h1 := Int.emod_nonneg (D / 8589934592) (show (p : Int) + 1 ≠ 0 by omega)
  have h2 := Int.emod_lt_of_pos (D / 8589934592) (show (0 : Int) < (p : Int) + 1 by omega)
  unfold pick
  generalize D / 8589934592 % ((p : Int) + 1) = z at *
  have := IntKind.wrap_i64 z
  unfold wrap64
  omega
set_option maxHeartbeats 4000000 in
theorem rorder_any (n me d : Int) (hd : U64 d) (w : World) : Calls Try.prog 9 #[.int .i64 n, .int .i64 me, .int .u64 d] w (OrdQ w (ord n me d).1 (ord n me d).2) := by
  by_cases hb : Bad n me
  · rw [ord_bad hb]
    have HQ : Hid (OrdQ w [] d (.returned (.tuple #[.slice none 0 0, .int .u64 d])) w) := Lib.hid ⟨none, 0, 0, rfl, Nw.nil _ _, Below.refl _ _⟩
    unfold Bad at hb
    go_enter Try.func9, Try.ntmps9
    by_cases z1 : n < 1
    · go_wp2
      go_ret2
      exact HQ.out
    by_cases z2 : n > 9
    · go_wp2
      go_ret2
      exact HQ.out
    by_cases z3 : me < 0
    · go_wp2
      go_ret2
      exact HQ.out
    have z4 : me ≥ n := by omega
    clear hb
    go_wp2
    go_ret2
    exact HQ.out
  · obtain ⟨N, hN⟩ : ∃ N : Nat, n = (N : Int) := ⟨n.toNat, by unfold Bad at hb; omega⟩
    subst hN
    obtain ⟨R, hR⟩ : ∃ R, ord (N : Int) me d = R := ⟨_, rfl⟩
    rw [hR]
    have HR : Hid (mix (N - 2) (oth N me) d = R) := Lib.hid (by rw [← hR]; unfold ord; rw [if_neg hb]; simp)
    have HO : Hid ((oth N me).length = N - 1) := Lib.hid (by unfold Bad at hb; rw [oth_len _ _ (by omega), if_pos (by omega)])
    unfold Bad at hb
    have z1 : ¬ ((N : Int) < 1) := by omega
    have z2 : ¬ ((N : Int) > 9) := by omega
    have z3 : ¬ (me < 0) := by omega
    have z4 : ¬ (me ≥ (N : Int)) := by omega
    have HB : Hid (1 ≤ N ∧ N ≤ 9 ∧ 0 ≤ me ∧ me < (N : Int)) := Lib.hid (by omega)
    have HD := Lib.hid hd
    clear hR hb hd
    go_enter Try.func9, Try.ntmps9
    go_wp2
    generalize hBe : w.heap.size = B at *
    have HBE := Lib.hid hBe
    clear hBe z1 z2 z3 z4
    go_loopw [8, 9] (fun v i wr => ∃ (j m c : Nat) (a : Option Addr), j ≤ N ∧ v = .slice a m c ∧ i = .int .i64 (j : Int) ∧ Hid (Nw wr B a m c (oth j me) ∧ Below B w wr)) (fun _ i _ => N - (intOf i).toNat)
    case atStart => exact ⟨0, 0, 0, none, Nat.zero_le _, rfl, rfl, Lib.hid ⟨Nw.nil _ _, Below.refl _ _⟩⟩
    case round =>
      obtain ⟨j, m, c, a, hj, rfl, rfl, HJ⟩ := hrel
      have sj : B ≤ wr.heap.size := Nat.le_trans (by rw [HBE.out]; exact Nat.le_refl _) HJ.out.2.size
      have hj9 : j ≤ 9 := by have h3 := HB.out; omega
      have hm9 : m ≤ 9 := by have h1 := HJ.out.1.len; have h2 := oth_le j me; have h3 := HB.out; omega
      by_cases hlt : j < N
      · have q1 : (j : Int) < (N : Int) := by omega
        by_cases z : (j : Int) = me
        · have q2 : ((j : Int) != me) = false := by simp [z]
          have HS : Hid (oth (j + 1) me = oth j me) := Lib.hid (by simp only [oth]; rw [if_pos z])
          clear z
          go_wp2
          exact ⟨⟨j + 1, m, c, a, by omega, rfl, by go_num, Lib.hid (by rw [HS.out]; exact HJ.out)⟩, by simp [intOf]; omega⟩
        · have q2 : ((j : Int) != me) = true := by simp [z]
          have HS : Hid (oth (j + 1) me = oth j me ++ [(j : Int)]) := Lib.hid (by simp only [oth]; rw [if_neg z])
          clear z
          go_wp2_with (at_builtin; refine wpList_append_one rfl (.tmp 37) (.tmp 39) 24 3 (.int .i64 0) 8 rfl Try.underlying24 int_info rfl (by omega) B _ m (ints (oth j me)) rfl (own_keepN HJ.out.1.own (fun b hq => Below.heap_alloc wr _ b (HJ.out.1.own.lt b hq).2)) wr.heap.size 3 (.int .i64 (j : Int)) rfl (Whole.new _ _ _) rfl (by omega) (by simp; omega) ?_)
          intro v5 w5 hown hg _
          obtain ⟨a5, c5, rfl, h5⟩ := HJ.out.1.add (by have := HB.out; constructor <;> omega) hown
          have HJ5 : Hid (Nw w5 B a5 (m + 1) c5 (oth (j + 1) me) ∧ Below B w w5) := Lib.hid ⟨by rw [HS.out]; exact h5, (HJ.out.2.alloc sj _).grown hg (by simp; omega) (fun k hk => (HJ.out.1.own.lt k hk).1)⟩
          clear hown hg h5
          go_wp2
          exact ⟨⟨j + 1, m + 1, c5, a5, by omega, rfl, by go_num, HJ5⟩, by simp [intOf]; omega⟩
      · obtain rfl : j = N := by omega
        have q1 : ¬ ((j : Int) < (j : Int)) := by omega
        have hm : m = j - 1 := by rw [← HJ.out.1.len]; exact HO.out
        have HMJ := Lib.hid hm
        have HW := Lib.hid sj
        clear hm sj
        have e1 : IntKind.i64.wrap ((m : Int) - 1) = (m : Int) - 1 := by rw [IntKind.wrap_i64]; omega
        go_wp2
        have H0 : Hid (mix (m - 1) (oth j me) d = R ∧ Nw wr B a m c (oth j me) ∧ Below B w wr ∧ U64 d) := Lib.hid ⟨by rw [HMJ.out, show j - 1 - 1 = j - 2 by omega]; exact HR.out, HJ.out.1, HJ.out.2, HD.out⟩
        clear HR HJ HD hj hlt q1 HO
        go_loopw [2, 10, 11, 12] (fun dv i _ _ w4 => ∃ (k : Nat) (dd : Int) (ll : List Int), k ≤ m ∧ i = .int .i64 ((k : Int) - 1) ∧ dv = .int .u64 dd ∧ Hid (mix (k - 1) ll dd = R ∧ Nw w4 B a m c ll ∧ Below B w w4 ∧ U64 dd)) (fun _ i _ _ _ => (intOf i + 1).toNat)
        case atStart => exact ⟨m, d, oth j me, Nat.le_refl _, rfl, rfl, H0⟩
        case round =>
          clear H0
          obtain ⟨k, dd, ll, hk, rfl, rfl, HK⟩ := hrel
          by_cases hlt : 2 ≤ k
          · obtain ⟨p, hp⟩ : ∃ p, k = p + 1 := ⟨k - 1, by omega⟩
            subst hp
            have ei : ((p + 1 : Nat) : Int) - 1 = (p : Int) := by omega
            have q1 : (p : Int) ≥ 1 := by omega
            have HS := Lib.hid (mix_step (show 1 ≤ p by omega) ll dd)
            obtain ⟨D, hD⟩ : ∃ D, dr dd = D := ⟨_, rfl⟩
            have HD : Hid (U64 D) := Lib.hid (by rw [← hD]; exact dr_in dd)
            rw [hD] at HS
            rw [ei]
            clear ei
            go_wp2_with fail
            refine (rdraw_any dd wr).mono ?_
            rintro e w5 ⟨rfl, hb5⟩
            rw [hD]
            have H5 := Lib.hid (And.intro (HK.out.2.1.below hb5) (HK.out.2.2.1.trans (hb5.mono (Nat.le_trans (by rw [HBE.out]; exact Nat.le_refl _) HK.out.2.2.1.size))))
            clear hb5 hD
            go_upto_region 14 with fail
            rw [pick_spelled HD.out p (by omega)]
            have hq := pick_le D p
            obtain ⟨q, hqq⟩ : ∃ q, pick D p = q := ⟨_, rfl⟩
            rw [hqq] at hq HS ⊢
            clear hqq
            obtain ⟨g, rfl, hBg, hgl, hmc, hcell⟩ := H5.out.1.form (by omega)
            obtain ⟨x, hx⟩ : ∃ x, ll.getD p 0 = x := ⟨_, rfl⟩
            obtain ⟨y, hy⟩ : ∃ y, ll.getD q 0 = y := ⟨_, rfl⟩
            have cp := (hcell p (by omega)).1
            have cq := (hcell q (by omega)).1
            have fp := (hcell p (by omega)).2
            have fq := (hcell q (by omega)).2
            rw [hx] at cp
            rw [hy] at cq
            have HX := Lib.hid (And.intro hx hy)
            have HG := Lib.hid (And.intro hBg (And.intro hgl hmc))
            clear hcell hx hy hBg hgl hmc
            go_upto_region 16 with fail
            have hin : In64 x ∧ In64 y := by rw [← HX.out.1, ← HX.out.2]; exact ⟨H5.out.1.ns.in64 p, H5.out.1.ns.in64 q⟩
            have h6 := H5.out.1.set (k := p) (x := y) (by omega) hin.2
            have H6 := Lib.hid (And.intro h6 (And.intro (H5.out.2.setCell (p := ⟨g, p, none⟩) HG.out.1 (.int .i64 y)) hin.1))
            obtain ⟨g', eg, _, _, _, hcell⟩ := h6.form (by omega)
            injection eg with eg
            injection eg with eg
            subst eg
            have fq6 := (hcell q (by omega)).2
            have cq6 := (hcell q (by omega)).1
            clear h6 hcell cp cq fp fq hin
            generalize hw6 : w5.setCell ⟨g, p, none⟩ (.int .i64 y) = w6 at *
            have h7 := H6.out.1.set (k := q) (x := x) (by omega) H6.out.2.2
            have H7 : Hid (mix (p - 1) (swap ll p q) D = R ∧ Nw (w6.setCell ⟨g, q, none⟩ (.int .i64 x)) B (some ⟨g, 0, none⟩) m c (swap ll p q) ∧ Below B w (w6.setCell ⟨g, q, none⟩ (.int .i64 x)) ∧ U64 D) := Lib.hid ⟨by rw [← HS.out]; exact HK.out.1, by unfold swap; rw [HX.out.1, HX.out.2]; exact h7, H6.out.2.1.setCell (p := ⟨g, q, none⟩) HG.out.1 _, HD.out⟩
            clear h7 HK H5 H6 HS hw6
            go_wp2
            exact ⟨⟨p, D, swap ll p q, by omega, by go_num, rfl, H7⟩, by simp [intOf] <;> omega⟩
          · have q1 : ¬ ((k : Int) - 1 ≥ 1) := by omega
            have HE : Hid (R = (ll, dd)) := Lib.hid (by rw [← HK.out.1, show k - 1 = 0 by omega]; rfl)
            go_wp2
            go_ret2
            rw [HE.out]
            exact ⟨a, m, c, rfl, by rw [HBE.out]; exact HK.out.2.1, by rw [HBE.out]; exact HK.out.2.2.1⟩
end Go.Proofs.Ytanojjcbbjgefaa
