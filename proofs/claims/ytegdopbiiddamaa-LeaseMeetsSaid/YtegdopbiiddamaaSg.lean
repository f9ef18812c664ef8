/-
  The walk of LeaseMeets.
-/
import Derived.Test.YtegdopbiiddamaaSh
namespace Go.Proofs.Ytegdopbiiddamaa
open Go.RowKit Go.Great
set_option linter.unusedVariables false
set_option linter.unusedSimpArgs false
set_option maxRecDepth 20000
theorem le_step (q m t : Nat) : (if q < m then t + 1 else t) ≤ (if q < m + 1 then t + 1 else t) := by split <;> split <;> omega
theorem step_ne (q m t : Nat) (h : q ≠ m) : (if q < m + 1 then t + 1 else t) = (if q < m then t + 1 else t) := by split <;> split <;> omega
theorem ac_zero : (#[.int .i64 0, .slice none 0 0] : Array Value).size = 2 := rfl
theorem make_acc (N : Nat) (h : N < 10) (w : World) : (Instr.makeSlice 42 (.int .i64 (N : Int)) (.int .i64 (N : Int))).run Try.prog w = .ok (.slice (some ⟨w.heap.size, 0, none⟩) N N) (w.alloc (.cells (accRow (fun _ => #[.int .i64 0, .slice none 0 0]) N).toArray 45)) := by
  rcases (by omega : N = 0 ∨ N = 1 ∨ N = 2 ∨ N = 3 ∨ N = 4 ∨ N = 5 ∨ N = 6 ∨ N = 7 ∨ N = 8 ∨ N = 9) with rfl | rfl | rfl | rfl | rfl | rfl | rfl | rfl | rfl | rfl <;> kernel_rfl
set_option maxHeartbeats 8000000 in
theorem meets_walk (hg : GrsA) (hl : Les) (hw : LAwake) {w : World} {C : Array Value} {p : Dr.P} (h : Cc w (· < w.heap.size) C p) {ga wa : Option Addr} {gn gc wn wc : Nat} {rows : List (List Int)} {waits : List Int}
    (hr : Gns w (· < w.heap.size) ga gn rows) (hwt : Txt w (· < w.heap.size) wa wn wc waits) (A B : Nat) (hA : A < 256) (hB : B < 256) :
    Calls Try.prog 5 #[.agg C, .slice ga gn gc, .int .u8 (A : Int), .int .u8 (B : Int), .slice wa wn wc] w fun e w' => e = .returned (.bool true) ∧ Below w.heap.size w w' := by
  have h11 := h.size
  have HG := Lib.hid (And.intro hg (And.intro hl hw))
  have HR := Lib.hid (And.intro hr hwt)
  have HK : Hid (Whole (w.alloc (.cells C 24)) w.heap.size 24 C ∧ Cc (w.alloc (.cells C 24)) (· < w.heap.size) C p ∧ Below w.heap.size w (w.alloc (.cells C 24))) := Lib.hid ⟨Whole.new w _ _, h.below (below_alloc w _) (fun _ _ h => h), below_alloc w _⟩
  clear hg hl hw h hr hwt
  go_enter Try.func5, Try.ntmps5
  go_upto_region 1 with fail
  generalize w.alloc (.cells C 24) = w1 at *
  go_wp2_with fail
  refine (HG.out.2.2 w1).mono ?_
  rintro e w2 ⟨rfl, hb⟩
  have HK := Lib.hid (And.intro (HK.out.1.below hb HK.out.1.lt) (And.intro (HK.out.2.1.below hb (fun b hb _ => hb)) (HK.out.2.2.trans (hb.mono HK.out.2.2.size))))
  clear hb
  go_wp2_with (first | ((with_reducible show wpList _ _ _ ((⟨some 29, Op.load 24 (.tmp 5), _, _, _, _⟩ : Oper) :: _) _ _); refine wpList_load_rowG (by rfl) _ (.tmp 5) rfl w.heap.size rfl 24 C (0, 0) _ HK.out.1 Try.underlying24 rfl (by rw [h11]; exact info11) ?_) | fail)
  refine (few_any HK.out.2.1).mono ?_
  rintro e w3 ⟨rfl, hb⟩
  have HK := Lib.hid (And.intro (HK.out.1.below hb HK.out.1.lt) (And.intro (HK.out.2.1.below hb (fun b hb _ => hb)) (HK.out.2.2.trans (hb.mono HK.out.2.2.size))))
  clear hb
  obtain ⟨fw, hfw⟩ : ∃ b, few p = b := ⟨_, rfl⟩
  rw [hfw]
  clear hfw
  cases fw
  case false =>
    go_wp2
    go_ret
    exact ⟨rfl, HK.out.2.2⟩
  go_wp2_with (first | ((with_reducible show wpList _ _ _ ((⟨some 33, Op.load 24 (.tmp 5), _, _, _, _⟩ : Oper) :: _) _ _); refine wpList_load_rowG (by rfl) _ (.tmp 5) rfl w.heap.size rfl 24 C (0, 0) _ HK.out.1 Try.underlying24 rfl (by rw [h11]; exact info11) ?_) | fail)
  refine (check_any HK.out.2.1).mono ?_
  rintro e w4 ⟨rfl, hb⟩
  have HK := Lib.hid (And.intro (HK.out.1.below hb HK.out.1.lt) (And.intro (HK.out.2.1.below hb (fun b hb _ => hb)) (HK.out.2.2.trans (hb.mono HK.out.2.2.size))))
  clear hb
  by_cases hok : p.ok
  case neg =>
    rw [Dr.P.chk_no hok]
    clear hok
    go_wp2
    go_ret
    exact ⟨rfl, HK.out.2.2⟩
  rw [Dr.P.chk_ok hok]
  obtain ⟨N, hN⟩ : ∃ N : Nat, p.nodes = (N : Int) := ⟨p.nodes.toNat, by have := hok.1.1; omega⟩
  have hN9 : 1 ≤ N ∧ N ≤ 9 := by have h1 := hok.1; unfold Dr.P.g0 at h1; omega
  obtain ⟨gr, hgr⟩ : ∃ gr, p.grant = gr := ⟨_, rfl⟩
  have HP := Lib.hid (And.intro hok (And.intro hN hgr))
  have hpl : Pl w4 w.heap.size C p := ⟨HK.out.1, HK.out.2.1.weak (fun _ _ _ => trivial)⟩
  have c0 := hpl.cells.1
  have c4 := hpl.cells.2.2
  rw [hN] at c0
  rw [hgr] at c4
  have HC := Lib.hid (And.intro c0 c4)
  clear hok hN hgr hpl
  by_cases h2 : (N : Int) < 2
  case pos =>
    go_wp2
    go_ret
    exact ⟨rfl, HK.out.2.2⟩
  have hN2 : 2 ≤ N := by omega
  have hz := Whole.new w4 41 (nin fun _ => 0).toArray
  rw [zero_c9] at hz
  have HZ := Lib.hid hz
  clear hz
  go_upto_region 7 with (first | ((with_reducible show wpList _ _ _ ((⟨_, Op.build 41 _, _, _, _, _⟩ : Oper) :: _) _ _); refine wpList_built rfl _ rfl [] rfl (nin fun _ => 0) built_c9 ?_) | ((with_reducible show wpList _ _ _ ((⟨_, Op.store 41 _ _, _, _, _, _⟩ : Oper) :: _) _ _); refine wpList_store_row rfl 41 (.tmp 12) (.tmp 42) rfl w4.heap.size (nin fun _ => 0).toArray rfl rfl 41 _ HZ.out info_c9 rfl (by kernel_rfl) ?_) | fail)
  have HB5 : Hid (Below w4.heap.size w4 ((w4.alloc (.cells #[.int .i64 0, .int .i64 0, .int .i64 0, .int .i64 0, .int .i64 0, .int .i64 0, .int .i64 0, .int .i64 0, .int .i64 0] 41)).setRow w4.heap.size (nin fun _ => 0).toArray)) := Lib.hid (below_row (below_alloc w4 _) (Nat.le_refl _) _)
  have HZ5 := Lib.hid (HZ.out.row (nin fun _ => 0).toArray)
  clear HZ
  generalize (w4.alloc (.cells #[.int .i64 0, .int .i64 0, .int .i64 0, .int .i64 0, .int .i64 0, .int .i64 0, .int .i64 0, .int .i64 0, .int .i64 0] 41)).setRow w4.heap.size (nin fun _ => 0).toArray = w5 at *
  have hs5 : w4.heap.size < w5.heap.size := HZ5.out.lt
  have hk5 : Whole w5 w.heap.size 24 C := HK.out.1.below HB5.out HK.out.1.lt
  have c0 : w5.cell? ⟨w.heap.size, 0, none⟩ = some (.int .i64 (N : Int)) := (HB5.out.cell (p := ⟨w.heap.size, 0, none⟩) HK.out.1.lt).trans HC.out.1
  have hmk := make_acc N (by omega)
  have HGR : Hid (w.heap.size < w4.heap.size) := Lib.hid HK.out.1.lt
  clear hs5 hk5
  go_upto_region 8 with fail
  have hb6 := below_alloc w5 (.cells (accRow (fun _ => #[.int .i64 0, .slice none 0 0]) N).toArray 45)
  have hw6 := Whole.new w5 45 (accRow (fun _ => #[.int .i64 0, .slice none 0 0]) N).toArray
  obtain ⟨w6, h6⟩ : ∃ w6, w5.alloc (.cells (accRow (fun _ => #[.int .i64 0, .slice none 0 0]) N).toArray 45) = w6 := ⟨_, rfl⟩
  rw [h6] at hb6 hw6 ⊢
  clear h6
  obtain ⟨gC, hgC⟩ : ∃ q, w4.heap.size = q := ⟨_, rfl⟩
  obtain ⟨gR, hgR⟩ : ∃ q, w5.heap.size = q := ⟨_, rfl⟩
  obtain ⟨g, hgg⟩ : ∃ q, w.heap.size = q := ⟨_, rfl⟩
  have hfar : g ≤ g ∧ g < gC ∧ gC < gR := ⟨Nat.le_refl _, by rw [← hgg, ← hgC]; exact HK.out.1.lt, by rw [← hgC, ← hgR]; exact HZ5.out.lt⟩
  have H0 : Hid (Sto g w w6 [g, gC, gR] g gC gR C p (fun _ => 0) N (fun _ => #[.int .i64 0, .slice none 0 0]) (fun _ => ⟨0, []⟩)) := Lib.hid (by
    have hB : g ≤ w4.heap.size := by rw [hgC]; exact Nat.le_of_lt hfar.2.1
    have hB5 : g ≤ w5.heap.size := by rw [hgR]; omega
    have hbb : Below g w4 w6 := (HB5.out.mono hB).trans (hb6.mono hB5)
    rw [hgg] at HK
    refine ⟨HK.out.2.2.trans hbb, (HK.out.1.below HB5.out HK.out.1.lt).below hb6 (by rw [hgR]; omega), HK.out.2.1.below hbb (fun _ _ h => h), ?_, ?_, fun i hi => ⟨none, 0, 0, rfl, Elem.Row.nil _ _ _, Nat.le_refl _, by constructor <;> decide, by omega⟩, by simp, by simp, hfar⟩
    · rw [hgC] at HZ5; exact HZ5.out.below hb6 (by rw [hgR]; omega)
    · rw [hgR] at hw6; exact hw6)
  rw [hgC, hgR, hgg]
  rw [hgg] at HR HK
  have HKB := Lib.hid HK.out.2.2
  have HGG := Lib.hid hgg
  clear hgC hgR hgg hb6 hw6 hmk c0 c4 HB5 HZ5 HGR HC HK
  have HF := Lib.hid hfar
  clear hfar
  go_wp2
  go_loopw [14] (fun v wr => ∃ j : Nat, j ≤ N ∧ v = .int .i64 (j : Int) ∧ Hid (∃ VS ac cl, Sto g w wr [g, gC, gR] g gC gR C p cl N VS ac ∧ ∀ i, i < j → ac i = Gt.new p 0 ∧ cl i = gr)) (fun v _ => N - (intOf v).toNat)
  case atStart => exact ⟨0, Nat.zero_le _, rfl, Lib.hid ⟨_, _, _, H0.out, fun i hi => absurd hi (Nat.not_lt_zero i)⟩⟩
  case round =>
    clear H0
    obtain ⟨j, hj, rfl, HJ⟩ := hrel
    obtain ⟨VS, ac, cl, hJ, hI⟩ := HJ.out
    have HJ := Lib.hid hJ
    have HI := Lib.hid hI
    clear hJ hI
    have hpl : Pl wr g C p := ⟨HJ.out.plan, HJ.out.cc.weak (fun _ _ _ => trivial)⟩
    have c0 := hpl.cells.1
    rw [HP.out.2.1] at c0
    clear hpl
    by_cases hlt : j < N
    case neg =>
      have q1 : ¬ ((j : Int) < (N : Int)) := by omega
      have hjN : j = N := by omega
      subst hjN
      have HJ1 := HJ
      have HI1 := HI
      clear HJ HI
      have HJ := HJ1
      have HI := HI1
      clear HJ1 HI1
      go_upto_region 14 with fail
      rw [← lz_is]
      have hw9 := Whole.new wr 26 lz
      have hb9 := below_alloc wr (.cells lz 26)
      obtain ⟨gA, hgA⟩ : ∃ q, wr.heap.size = q := ⟨_, rfl⟩
      obtain ⟨w9, h9⟩ : ∃ w9, wr.alloc (.cells lz 26) = w9 := ⟨_, rfl⟩
      have hs9 : w9.heap.size = gA + 1 := by rw [← h9, ← hgA]; simp
      have HJ9 : Hid (Sto g w w9 [g, gC, gR, gA] g gC gR C p cl j VS ac) := Lib.hid (by
        have h := HJ.out.more (gs' := [g, gC, gR, gA]) (fun b hb => by simp at hb ⊢; omega) (fun b hb => by simp at hb ⊢; omega)
        rw [← h9]
        exact h.on hb9)
      rw [h9] at hw9 hb9 ⊢
      rw [hgA] at hw9 ⊢
      have hlt9 : gR < gA := by rw [← hgA]; exact HJ.out.row.lt
      have HW9 := Lib.hid hw9
      clear hw9 hb9 h9 HJ hgA
      go_upto_region 15 with fail
      rw [← lz_is]
      have hw10 := Whole.new w9 26 lz
      have hb10 := below_alloc w9 (.cells lz 26)
      obtain ⟨gB, hgB⟩ : ∃ q, w9.heap.size = q := ⟨_, rfl⟩
      obtain ⟨w10, h10⟩ : ∃ w10, w9.alloc (.cells lz 26) = w10 := ⟨_, rfl⟩
      have hnl : ∀ (W : World), LseS W (fun b => b ∉ [g, gC, gR, gA, gB]) lz ⟨0, 0, 0, []⟩ := fun W => ⟨none, 0, 0, lz_is, Ns.nil _ _ _, Nat.le_refl _, by constructor <;> decide, by constructor <;> decide, by constructor <;> decide⟩
      have HS : Hid (Stm g w w10 [g, gC, gR, gA, gB] g gC gR gA gB C p cl j VS ac lz lz ⟨0, 0, 0, []⟩ ⟨0, 0, 0, []⟩) := Lib.hid (by
        have h := HJ9.out.more (gs' := [g, gC, gR, gA, gB]) (fun b hb => by simp at hb ⊢; omega) (fun b hb => by simp at hb ⊢; omega)
        rw [h10] at hb10 hw10
        refine ⟨h.on hb10, HW9.out.below hb10 HW9.out.lt, by rw [hgB] at hw10; exact hw10, hnl _, hnl _, by simp, by simp, hlt9, by omega⟩)
      rw [h10] at hb10 ⊢
      obtain rfl : gB = gA + 1 := by omega
      clear hw10 hb10 h10 HJ9 HW9 hs9 hgB hlt9 hnl
      generalize gA + 1 = gB at *
      obtain ⟨TA, hTA⟩ : ∃ t, A % 60 = t := ⟨_, rfl⟩
      obtain ⟨TB, hTB⟩ : ∃ t, B % 60 = t := ⟨_, rfl⟩
      have hA3 : IntKind.i64.wrap (A : Int) = (A : Int) := by rw [IntKind.wrap_i64]; omega
      have hB3 : IntKind.i64.wrap (B : Int) = (B : Int) := by rw [IntKind.wrap_i64]; omega
      have hTA60 : TA < 60 := by omega
      have hTB60 : TB < 60 := by omega
      obtain ⟨k, hk⟩ : ∃ k : Tel, k = ⟨p, j, tld rows, TA, TB, wt waits, fun n => wt waits (n + 9)⟩ := ⟨_, rfl⟩
      have HT : Hid (k.p = p ∧ k.N = j ∧ k.told = tld rows ∧ k.TA = TA ∧ k.TB = TB ∧ k.wA = wt waits ∧ k.wB = fun n => wt waits (n + 9)) := Lib.hid (by rw [hk]; exact ⟨rfl, rfl, rfl, rfl, rfl, rfl, rfl⟩)
      have HO : Hid (k.p.ok ∧ k.p.nodes = (k.N : Int)) := Lib.hid (by rw [HT.out.1, HT.out.2.1]; exact ⟨HP.out.1, HP.out.2.1⟩)
      have HTT : Hid (A % 60 = TA ∧ B % 60 = TB) := Lib.hid ⟨hTA, hTB⟩
      have H0 : Hid (Bigs g w w10 g gC gR gA gB C k (fun _ => 0) (fun _ => 0) (fun _ => 0) 0 0 false false) := Lib.hid ⟨cl, VS, ac, lz, lz, _, _, by rw [hk]; exact HS.out, fun n hn => by
        rw [hk] at hn ⊢
        rw [(HI.out n hn).2, ← HP.out.2.2]
        rfl, fun n hn => by
        rw [hk] at hn ⊢
        rw [(HI.out n hn).1]
        exact (Mt.nod_new HP.out.1 n _ _), (fun h => by cases h), (fun h => by cases h), Nat.le_refl _, Nat.le_refl _⟩
      clear HS HI HJ c0 hlt q1 hj hTA hTB hk
      go_wp2
      go_loopw [17, 18, 19] (fun x17 x18 x19 wr => ∃ t : Nat, t ≤ 60 ∧ x19 = .int .i64 (t : Int) ∧ x17 = .bool (decide (TA < t)) ∧ x18 = .bool (decide (TB < t)) ∧ Hid (Bigs g w wr g gC gR gA gB C k (fun _ => t) (fun _ => t) (fun _ => t) (9 * t) (9 * t) (decide (TA < t)) (decide (TB < t)))) (fun _ _ x19 _ => 60 - (intOf x19).toNat)
      case atStart => exact ⟨0, by omega, rfl, by simp, by simp, H0⟩
      case round =>
        clear H0
        obtain ⟨t, ht, rfl, rfl, rfl, HJ⟩ := hrel
        by_cases ht60 : t < 60
        case neg =>
          have q1 : ¬ ((t : Int) < 60) := by omega
          go_wp2
          go_ret
          obtain ⟨_, _, _, _, _, _, _, hJ⟩ := HJ.out
          exact ⟨rfl, by rw [HGG.out]; exact hJ.stm.sto.below⟩
        have q1 : (t : Int) < 60 := by omega
        go_wp2
        go_loopw [20] (fun x20 wr => ∃ n : Nat, n ≤ j ∧ x20 = .int .i64 (n : Int) ∧ Hid (Bigs g w wr g gC gR gA gB C k (fun m => if m < n then t + 1 else t) (fun _ => t) (fun _ => t) (9 * t) (9 * t) (decide (TA < t)) (decide (TB < t)))) (fun x20 _ => j - (intOf x20).toNat)
        case atStart => exact ⟨0, by omega, rfl, HJ⟩
        case round =>
          clear HJ
          obtain ⟨n, hn, rfl, HJ⟩ := hrel
          obtain ⟨cl, VS, ac, VA, VB, a, b, hJ⟩ := HJ.out
          have HJ := Lib.hid hJ
          clear hJ
          have hpl := HJ.out.pl
          have c0 := hpl.cells.1
          rw [HO.out.2, HT.out.2.1] at c0
          clear hpl
          by_cases hlt : n < j
          case neg =>
            have q2 : ¬ ((n : Int) < (j : Int)) := by omega
            have hnj : n = j := by omega
            subst hnj
            have HJ := Lib.hid (HJ.out.ticks (c' := fun _ => t + 1) (uA' := fun _ => t) (uB' := fun _ => t) (LA' := 9 * t) (LB' := 9 * t) (fun m hm => by rw [HT.out.2.1] at hm; rw [if_pos hm]) (fun _ _ => Nat.le_refl _) (fun _ _ => Nat.le_refl _) (Nat.le_refl _) (Nat.le_refl _))
            clear hlt
            have r1 : (A : Int).tmod 60 = (TA : Int) := by rw [← HTT.out.1]; rfl
            have r2 : (A : Int) % 60 = (TA : Int) := by rw [← HTT.out.1]; rfl
            obtain ⟨zb, hzb⟩ : ∃ z, ((t : Int) == (TA : Int)) = z := ⟨_, rfl⟩
            have hzt : zb = true ↔ t = TA := by rw [← hzb]; simp; omega
            have HZT := Lib.hid hzt
            clear hzt
            go_upto_if 87 with fail
            clear r1 r2 hzb
            go_cut [17] (fun v wx => v = .bool (decide (TA < t + 1)) ∧ Hid (Bigs g w wx g gC gR gA gB C k (fun _ => t + 1) (fun _ => t) (fun _ => t) (9 * t) (9 * t) (decide (TA < t + 1)) (decide (TB < t))))
            case first => as_aux_lemma =>
              -- CUT>
              cases zb with
              | true =>
                have z := HZT.out.1 rfl
                subst z
                have k0 := HJ.out.stm.sto.cell (n := 0) (by omega)
                obtain ⟨x, hx⟩ : ∃ v, cl 0 = v := ⟨_, rfl⟩
                have hxc := HJ.out.clk 0 (by rw [HT.out.2.1]; omega)
                have hxb := Mt.ck_in HO.out.1 k.told 0 (t + 1) (by omega)
                rw [← hxc, hx] at hxb
                rw [hx] at k0 hxc
                have HX := Lib.hid hxc
                have z4 := HJ.out.stm.la.lse.size
                clear hx hxc
                go_wp2_with fail
                refine (HG.out.2.1.ask wr 0 1 x (lin_lit (by omega)) (lin_lit (by omega)) (by constructor <;> omega)).mono ?_
                rintro e w11 ⟨V, rfl, hV, hb⟩
                have hgs := HJ.out.gs
                have hV1 : LseS w11 (fun b => b ∉ [g, gC, gR, gA, gB]) V ⟨0, 1, x, []⟩ := hV.weak (fun b _ hb hx => by have := hgs b hx; omega)
                have HJ := Lib.hid (HJ.out.on hb)
                have zV := hV1.lse.size
                have oV := hV1.lse.one
                have HV := Lib.hid hV1
                have HL := Lib.hid (HJ.out.begA (fun _ _ => by rw [HT.out.2.2.2.1]; exact Nat.le_refl _) (by rw [HT.out.2.2.2.1]; exact HX.out) HV.out)
                clear hV hV1 hb hgs k0
                go_wp2_with (first | ((with_reducible show wpList _ _ _ ((⟨_, Op.store 26 (.tmp 15) _, _, _, _, _⟩ : Oper) :: _) _ _); refine wpList_store_row rfl 26 (.tmp 15) (.tmp 90) rfl gA V rfl rfl 26 VA HJ.out.stm.ba (by rw [zV]; exact info_ls) (by rw [zV, z4]) oV ?_) | fail)
                go_meet
                case rel => exact ⟨by simp, Lib.hid (by rw [show decide (t < t + 1) = true by simp]; exact ⟨_, _, _, _, _, _, _, HL.out⟩)⟩
              | false =>
                have z : ¬ (t = TA) := fun e => by have := HZT.out.2 e; simp at this
                have e : decide (TA < t + 1) = decide (TA < t) := decide_eq_decide.2 (by omega)
                have HE := Lib.hid e
                clear e z
                go_wp2
                go_meet
                case rel => exact ⟨by rw [HE.out], Lib.hid (by rw [HE.out]; exact ⟨_, _, _, _, _, _, _, HJ.out⟩)⟩
              -- <CUT
            obtain ⟨rfl, HJC⟩ := hcut
            clear HJ
            obtain ⟨cl, VS, ac, VA, VB, a, b, hJ⟩ := HJC.out
            have HJ := Lib.hid hJ
            clear hJ HJC HZT
            have r1 : (B : Int).tmod 60 = (TB : Int) := by rw [← HTT.out.2]; rfl
            have r2 : (B : Int) % 60 = (TB : Int) := by rw [← HTT.out.2]; rfl
            obtain ⟨zb, hzb⟩ : ∃ z, ((t : Int) == (TB : Int)) = z := ⟨_, rfl⟩
            have hzt : zb = true ↔ t = TB := by rw [← hzb]; simp; omega
            have HZT := Lib.hid hzt
            clear hzt
            go_upto_if 95 with fail
            clear r1 r2 hzb
            go_cut [18] (fun v wx => v = .bool (decide (TB < t + 1)) ∧ Hid (Bigs g w wx g gC gR gA gB C k (fun _ => t + 1) (fun _ => t) (fun _ => t) (9 * t) (9 * t) (decide (TA < t + 1)) (decide (TB < t + 1))))
            case first => as_aux_lemma =>
              -- CUT>
              cases zb with
              | true =>
                have z := HZT.out.1 rfl
                subst z
                have k0 := HJ.out.stm.sto.cell (n := 1) (by omega)
                obtain ⟨x, hx⟩ : ∃ v, cl 1 = v := ⟨_, rfl⟩
                have hxc := HJ.out.clk 1 (by rw [HT.out.2.1]; omega)
                have hxb := Mt.ck_in HO.out.1 k.told 1 (t + 1) (by omega)
                rw [← hxc, hx] at hxb
                rw [hx] at k0 hxc
                have HX := Lib.hid hxc
                have z4 := HJ.out.stm.lb.lse.size
                clear hx hxc
                go_wp2_with fail
                refine (HG.out.2.1.ask _ 0 1 x (lin_lit (by omega)) (lin_lit (by omega)) (by constructor <;> omega)).mono ?_
                rintro e w11 ⟨V, rfl, hV, hb⟩
                have hgs := HJ.out.gs
                have hV1 : LseS w11 (fun b => b ∉ [g, gC, gR, gA, gB]) V ⟨0, 1, x, []⟩ := hV.weak (fun b _ hb hx => by have := hgs b hx; omega)
                have HJ := Lib.hid (HJ.out.on hb)
                have zV := hV1.lse.size
                have oV := hV1.lse.one
                have HV := Lib.hid hV1
                have HL := Lib.hid (HJ.out.begB (fun _ _ => by rw [HT.out.2.2.2.2.1]; exact Nat.le_refl _) (by rw [HT.out.2.2.2.2.1]; exact HX.out) HV.out)
                clear hV hV1 hb hgs k0
                go_wp2_with (first | ((with_reducible show wpList _ _ _ ((⟨_, Op.store 26 (.tmp 16) _, _, _, _, _⟩ : Oper) :: _) _ _); refine wpList_store_row rfl 26 (.tmp 16) (.tmp 98) rfl gB V rfl rfl 26 VB HJ.out.stm.bb (by rw [zV]; exact info_ls) (by rw [zV, z4]) oV ?_) | fail)
                go_meet
                case rel => exact ⟨by simp, Lib.hid (by rw [show decide (t < t + 1) = true by simp]; exact ⟨_, _, _, _, _, _, _, HL.out⟩)⟩
              | false =>
                have z : ¬ (t = TB) := fun e => by have := HZT.out.2 e; simp at this
                have e : decide (TB < t + 1) = decide (TB < t) := decide_eq_decide.2 (by omega)
                have HE := Lib.hid e
                clear e z
                go_wp2
                go_meet
                case rel => exact ⟨by rw [HE.out], Lib.hid (by rw [HE.out]; exact ⟨_, _, _, _, _, _, _, HJ.out⟩)⟩
              -- <CUT
            obtain ⟨rfl, HJC⟩ := hcut
            clear HJ HZT
            obtain ⟨fa, hfa⟩ : ∃ z, decide (TA < t + 1) = z := ⟨_, rfl⟩
            obtain ⟨fb, hfb⟩ : ∃ z, decide (TB < t + 1) = z := ⟨_, rfl⟩
            rw [hfa, hfb] at HJC
            rw [hfa, hfb]
            have HFF := Lib.hid (And.intro hfa hfb)
            clear hfa hfb
            go_wp2
            go_loopw [21] (fun x21 wr => ∃ m : Nat, m ≤ n ∧ x21 = .int .i64 (m : Int) ∧ Hid (Bigs g w wr g gC gR gA gB C k (fun _ => t + 1) (fun q => if q < m then t + 1 else t) (fun q => if q < m then t + 1 else t) (9 * t + m) (9 * t + m) fa fb)) (fun x21 _ => n - (intOf x21).toNat)
            case atStart => exact ⟨0, by omega, rfl, HJC⟩
            case round =>
              clear HJC
              obtain ⟨m, hm, rfl, HJC⟩ := hrel
              obtain ⟨cl, VS, ac, VA, VB, a, b, hJ⟩ := HJC.out
              have HJ := Lib.hid hJ
              clear hJ HJC
              have hpl := HJ.out.pl
              have c0 := hpl.cells.1
              rw [HO.out.2, HT.out.2.1] at c0
              clear hpl
              by_cases hlt : m < n
              case neg =>
                have q2 : ¬ ((m : Int) < (n : Int)) := by omega
                have hmn : n = m := by omega
                subst hmn
                have HJ := Lib.hid (HJ.out.ticks (c' := fun _ => t + 1) (uA' := fun _ => t + 1) (uB' := fun _ => t + 1) (LA' := 9 * (t + 1)) (LB' := 9 * (t + 1)) (fun _ _ => rfl) (fun q hq => by show (if q < n then t + 1 else t) ≤ t + 1; split <;> omega) (fun q hq => by show (if q < n then t + 1 else t) ≤ t + 1; split <;> omega) (by omega) (by omega))
                have HL : Hid (Bigs g w wr g gC gR gA gB C k (fun _ => t + 1) (fun _ => t + 1) (fun _ => t + 1) (9 * (t + 1)) (9 * (t + 1)) fa fb) := Lib.hid ⟨_, _, _, _, _, _, _, HJ.out⟩
                clear hlt
                cases fa with
                | false =>
                  go_wp2
                  go_roundw
                  case rel => exact ⟨t + 1, by omega, by go_num, by rw [HFF.out.1], by rw [HFF.out.2], Lib.hid (by rw [HFF.out.1, HFF.out.2]; exact HL.out)⟩
                  case measure => simp [intOf]; omega
                | true =>
                  cases fb with
                  | false =>
                    go_wp2
                    go_roundw
                    case rel => exact ⟨t + 1, by omega, by go_num, by rw [HFF.out.1], by rw [HFF.out.2], Lib.hid (by rw [HFF.out.1, HFF.out.2]; exact HL.out)⟩
                    case measure => simp [intOf]; omega
                  | true =>
                    have k0 := HJ.out.stm.sto.cell (n := 0) (by omega)
                    obtain ⟨x, hx⟩ : ∃ v, cl 0 = v := ⟨_, rfl⟩
                    obtain ⟨y, hy⟩ : ∃ v, cl 1 = v := ⟨_, rfl⟩
                    have hxc := HJ.out.clk 0 (by rw [HT.out.2.1]; omega)
                    have hyc := HJ.out.clk 1 (by rw [HT.out.2.1]; omega)
                    have hxb := Mt.ck_in HO.out.1 k.told 0 (t + 1) (by omega)
                    have hyb := Mt.ck_in HO.out.1 k.told 1 (t + 1) (by omega)
                    rw [← hxc, hx] at hxb
                    rw [← hyc, hy] at hyb
                    rw [hx] at k0 hxc
                    rw [hy] at hyc
                    have z4 := HJ.out.stm.la.lse.size
                    have z5 := HJ.out.stm.lb.lse.size
                    obtain ⟨h1, hh1⟩ : ∃ z, Ln.held k.p a x = z := ⟨_, rfl⟩
                    obtain ⟨h2, hh2⟩ : ∃ z, Ln.held k.p b y = z := ⟨_, rfl⟩
                    have hta : k.TA ≤ t := by rw [HT.out.2.2.2.1]; have := of_decide_eq_true HFF.out.1; omega
                    have htb : k.TB ≤ t := by rw [HT.out.2.2.2.2.1]; have := of_decide_eq_true HFF.out.2; omega
                    have hno := HJ.out.no HO.out.1 HO.out.2 hta htb hxc hyc
                    rw [hh1, hh2] at hno
                    have HNO := Lib.hid (And.intro hno (And.intro hh1 (And.intro hh2 hy)))
                    clear hx hxc hyc hta htb hno hh1 hh2 hy
                    go_wp2_with (first | ((with_reducible show wpList _ _ _ ((⟨some 177, Op.load 24 (.tmp 5), _, _, _, _⟩ : Oper) :: _) _ _); refine wpList_load_rowG (by rfl) _ (.tmp 5) rfl g rfl 24 C (0, 0) _ HJ.out.stm.sto.plan Try.underlying24 rfl (by rw [h11]; exact info11) ?_) | ((with_reducible show wpList _ _ _ ((⟨some 178, Op.load 26 (.tmp 15), _, _, _, _⟩ : Oper) :: _) _ _); refine wpList_load_rowG (by rfl) _ (.tmp 15) rfl gA rfl 26 VA (0, 0) _ HJ.out.stm.ba Try.underlying26 rfl (by rw [z4]; exact info_ls) ?_) | fail)
                    refine (HG.out.2.1.held HJ.out.stm.sto.cc HJ.out.stm.la.lse (by have := HJ.out.lenA; omega) x (by constructor <;> omega)).mono ?_
                    rintro e wf ⟨rfl, hb⟩
                    rw [HNO.out.2.1]
                    have HJ := Lib.hid (HJ.out.on hb)
                    have HL : Hid (Bigs g w wf g gC gR gA gB C k (fun _ => t + 1) (fun _ => t + 1) (fun _ => t + 1) (9 * (t + 1)) (9 * (t + 1)) true true) := Lib.hid ⟨_, _, _, _, _, _, _, HJ.out⟩
                    clear hb k0
                    cases h1 with
                    | false =>
                      go_wp2
                      go_roundw
                      case rel => exact ⟨t + 1, by omega, by go_num, by rw [HFF.out.1], by rw [HFF.out.2], Lib.hid (by rw [HFF.out.1, HFF.out.2]; exact HL.out)⟩
                      case measure => simp [intOf]; omega
                    | true =>
                      have h2f : h2 = false := by
                        cases h2 with
                        | false => rfl
                        | true => exact absurd ⟨rfl, rfl⟩ HNO.out.1
                      subst h2f
                      have k1 := HJ.out.stm.sto.cell (n := 1) (by omega)
                      rw [HNO.out.2.2.2] at k1
                      go_wp2_with (first | ((with_reducible show wpList _ _ _ ((⟨some 184, Op.load 24 (.tmp 5), _, _, _, _⟩ : Oper) :: _) _ _); refine wpList_load_rowG (by rfl) _ (.tmp 5) rfl g rfl 24 C (0, 0) _ HJ.out.stm.sto.plan Try.underlying24 rfl (by rw [h11]; exact info11) ?_) | ((with_reducible show wpList _ _ _ ((⟨some 185, Op.load 26 (.tmp 16), _, _, _, _⟩ : Oper) :: _) _ _); refine wpList_load_rowG (by rfl) _ (.tmp 16) rfl gB rfl 26 VB (0, 0) _ HJ.out.stm.bb Try.underlying26 rfl (by rw [z5]; exact info_ls) ?_) | fail)
                      refine (HG.out.2.1.held HJ.out.stm.sto.cc HJ.out.stm.lb.lse (by have := HJ.out.lenB; omega) y (by constructor <;> omega)).mono ?_
                      rintro e wh ⟨rfl, hb⟩
                      rw [HNO.out.2.2.1]
                      have HL : Hid (Bigs g w wh g gC gR gA gB C k (fun _ => t + 1) (fun _ => t + 1) (fun _ => t + 1) (9 * (t + 1)) (9 * (t + 1)) true true) := Lib.hid ⟨_, _, _, _, _, _, _, HJ.out.on hb⟩
                      clear hb k1
                      go_wp2
                      go_roundw
                      case rel => exact ⟨t + 1, by omega, by go_num, by rw [HFF.out.1], by rw [HFF.out.2], Lib.hid (by rw [HFF.out.1, HFF.out.2]; exact HL.out)⟩
                      case measure => simp [intOf]; omega
              -- CUT>
              have q2 : (m : Int) < (n : Int) := by omega
              have q9 : (m : Int) < 9 := by omega
              have q9' : m < 9 := by omega
              obtain ⟨m9, hm9⟩ : ∃ v, m + 9 = v := ⟨_, rfl⟩
              obtain ⟨sA, hsA⟩ : ∃ v, TA + wt waits m = v := ⟨_, rfl⟩
              obtain ⟨sB, hsB⟩ : ∃ v, TB + wt waits m9 = v := ⟨_, rfl⟩
              have HSS := Lib.hid (And.intro hsA hsB)
              have hlA := wt_lt waits m
              have hlB := wt_lt waits m9
              obtain ⟨wvA, hwA⟩ : ∃ v, wt waits m = v := ⟨_, rfl⟩
              obtain ⟨wvB, hwB⟩ : ∃ v, wt waits m9 = v := ⟨_, rfl⟩
              rw [hwA] at hsA hlA
              rw [hwB] at hsB hlB
              have HWV := Lib.hid (And.intro hwA hwB)
              have HM9 := Lib.hid hm9
              clear hwA hwB
              go_upto_region 33 with fail
              go_cut [116] (fun v wx => v = .bool (fa && decide (t = sA)) ∧ wx = wr)
              case first => as_aux_lemma =>
                cases fa with
                | false =>
                  go_wp2
                  go_meet
                  case rel => exact ⟨rfl, rfl⟩
                | true =>
                  have r1 : (A : Int).tmod 60 = (TA : Int) := by rw [← HTT.out.1]; rfl
                  have r2 : (A : Int) % 60 = (TA : Int) := by rw [← HTT.out.1]; rfl
                  have hw3 : IntKind.i64.wrap ((TA : Int) + (wvA : Int)) = (sA : Int) := by rw [IntKind.wrap_i64]; omega
                  have hq : ((t : Int) == (sA : Int)) = decide (t = sA) := by
                    by_cases e : t = sA
                    · simp [e]
                    · rw [decide_eq_false e]; simp; omega
                  go_wp2_with fail
                  refine (wait_any (HR.out.2.below HJ.out.stm.sto.below (fun _ _ h => h)) m (by omega)).mono ?_
                  rintro e wq ⟨rfl, rfl⟩
                  rw [HWV.out.1]
                  go_wp2
                  go_meet
                  case rel => exact ⟨rfl, rfl⟩
              obtain ⟨rfl, rfl⟩ := hcut
              obtain ⟨zb, hzb⟩ : ∃ z, (fa && decide (t = sA)) = z := ⟨_, rfl⟩
              have HZB : Hid (zb = true → fa = true ∧ t = sA) := Lib.hid (fun h => by rw [← hzb, Bool.and_eq_true] at h; exact ⟨h.1, of_decide_eq_true h.2⟩)
              rw [hzb]
              clear hzb
              go_upto_if 116 with fail
              go_cut [21] (fun v wx => v = .int .i64 (m : Int) ∧ Hid (Bigs g w wx g gC gR gA gB C k (fun _ => t + 1) (fun q => if q < m + 1 then t + 1 else t) (fun q => if q < m then t + 1 else t) (9 * t + m + 1) (9 * t + m) fa fb))
              case first => as_aux_lemma =>
                cases zb with
                | false =>
                  have HL := Lib.hid HJ.out.keepA
                  go_wp2
                  go_meet
                  case rel => exact ⟨rfl, HL⟩
                | true =>
                  obtain ⟨rfl, hts⟩ := HZB.out rfl
                  have HTS := Lib.hid hts
                  clear hts
                  obtain ⟨x, hx⟩ : ∃ v, cl m = v := ⟨_, rfl⟩
                  have hxc := HJ.out.clk m (by rw [HT.out.2.1]; exact hlt)
                  have hxb := Mt.ck_in HO.out.1 k.told m (t + 1) (by omega)
                  rw [← hxc, hx] at hxb
                  have k0 := HJ.out.stm.sto.cell q9'
                  rw [hx] at hxc k0
                  have HX := Lib.hid (And.intro hxc hx)
                  have hac := HJ.out.stm.sto.acc m (by rw [HT.out.2.1]; exact hlt)
                  have rg := HJ.out.stm.sto.range (n := m) (by rw [HT.out.2.1]; exact hlt)
                  obtain ⟨V, hV⟩ : ∃ V, VS m = V := ⟨_, rfl⟩
                  obtain ⟨a0, ha0⟩ : ∃ a0, ac m = a0 := ⟨_, rfl⟩
                  rw [hV] at hac rg
                  rw [ha0] at hac
                  have zV := hac.acc.size
                  have HAC := Lib.hid (And.intro hac (And.intro hV ha0))
                  obtain ⟨a2, bb, hab⟩ : ∃ a2 bb, Gt.ask k.p a0 0 0 1 x = (a2, bb) := ⟨_, _, rfl⟩
                  have HAB := Lib.hid hab
                  clear hxc hx hac hV ha0 hab
                  have und := Try.underlying45
                  have iV : (Try.prog.info? 45).map (·.size) = some V.toList.length := by rw [Array.length_toList, zV]; exact info_acc
                  go_upto_region 34 with fail
                  go_cut [22, 23] (fun v v2 wx => ∃ gb V2, v = .pointer (some ⟨gb, 0, none⟩) ∧ v2 = .bool bb ∧ Hid (Bxw g w wx g gC gR gA gB C k.p cl k.N VS ac VA VB a b gb V2 a2))
                  case first => as_aux_lemma =>
                    have HGS := Lib.hid HJ.out.gs
                    have HJ := Lib.hid (HJ.out.on (Below.refl _ _).drew)
                    have HV0 := Lib.hid HAC.out.2.1
                    have HAC := Lib.hid ((HAC.out.1.on (Below.refl _ _).drew).weak (S' := fun b => b ∉ [g, gC, gR, gA, gB] ∧ b < wc.drew.heap.size) (fun b hb hx => ⟨hx, hb⟩))
                    have hHeld0 : Whole wc.drew g 24 C ∧ wc.drew.rangeAt gR (m * 2) V.toList ∧ wc.drew.cell? ⟨gC, m, none⟩ = some (.int .i64 x) := ⟨HJ.out.stm.sto.plan, rg, k0⟩
                    refine wp_region_held_drew (S := fun wq => Whole wq g 24 C ∧ wq.rangeAt gR (m * 2) V.toList ∧ wq.cell? ⟨gC, m, none⟩ = some (.int .i64 x)) (by kernel_rfl) hHeld0 (fun hHeld => ?_)
                    have HGS : Hid (∀ y ∈ [g, gC, gR, gA, gB], y < wc.drew.heap.size) := Lib.hid HJ.out.gs
                    generalize wc.drew = wd at *
                    clear rg k0
                    refine wpAnyH_take (i := 0) (v := .agg C) rfl (by kernel_rfl) (by kernel_rfl) (by kernel_rfl) (fun _ _ _ h => h) (yields_lp (by rfl) _ rfl g rfl C h11 (fun wq hSw => hSw.1)) (by assumption) ?_
                    try simp only [Act.put, List.getElem_toArray, List.getElem_cons_zero, List.getElem_cons_succ, List.setIfInBounds_toArray, List.set_cons_zero, List.set_cons_succ]
                    refine wpAnyH_take (i := 1) (v := .slice (some ⟨gR, 0, none⟩) n n) rfl (by kernel_rfl) (by kernel_rfl) (by kernel_rfl) (fun _ _ _ h => h) (Or.inl ⟨by rfl, (by intro w hSw; (try dsimp only at hSw); go_simp)⟩) (by assumption) ?_
                    try simp only [Act.put, List.getElem_toArray, List.getElem_cons_zero, List.getElem_cons_succ, List.setIfInBounds_toArray, List.set_cons_zero, List.set_cons_succ]
                    refine wpAnyH_take (i := 2) (v := .int .i64 (m : Int)) rfl (by kernel_rfl) (by kernel_rfl) (by kernel_rfl) (fun _ _ _ h => h) (Or.inl ⟨by rfl, (by intro w hSw; (try dsimp only at hSw); go_simp)⟩) (by assumption) ?_
                    try simp only [Act.put, List.getElem_toArray, List.getElem_cons_zero, List.getElem_cons_succ, List.setIfInBounds_toArray, List.set_cons_zero, List.set_cons_succ]
                    refine wpAnyH_take (i := 3) (v := .pointer (some ⟨gR, m * 2, none⟩)) rfl (by kernel_rfl) (by kernel_rfl) (by kernel_rfl) (fun _ _ _ h => h) (Or.inl ⟨by rfl, (by intro w hSw; (try dsimp only at hSw); go_simp)⟩) (by assumption) ?_
                    try simp only [Act.put, List.getElem_toArray, List.getElem_cons_zero, List.getElem_cons_succ, List.setIfInBounds_toArray, List.set_cons_zero, List.set_cons_succ]
                    refine wpAnyH_take (i := 4) (v := .agg V) rfl (by kernel_rfl) (by kernel_rfl) (by kernel_rfl) (fun _ _ _ h => h) (yieldsIf_load_mid (by rfl) _ _ rfl _ _ rfl V.toList _ (fun w hSw => hSw.2.1) und rfl iV) (by assumption) ?_
                    try simp only [Act.put, List.getElem_toArray, List.getElem_cons_zero, List.getElem_cons_succ, List.setIfInBounds_toArray, List.set_cons_zero, List.set_cons_succ]
                    refine wpAnyH_take (i := 5) (v := .int .i64 (m : Int)) rfl (by kernel_rfl) (by kernel_rfl) (by kernel_rfl) (fun _ _ _ h => h) (Or.inl ⟨by rfl, (by intro w hSw; (try dsimp only at hSw); go_simp)⟩) (by assumption) ?_
                    try simp only [Act.put, List.getElem_toArray, List.getElem_cons_zero, List.getElem_cons_succ, List.setIfInBounds_toArray, List.set_cons_zero, List.set_cons_succ]
                    refine wpAnyH_take (i := 6) (v := .pointer (some ⟨gC, m, none⟩)) rfl (by kernel_rfl) (by kernel_rfl) (by kernel_rfl) (fun _ _ _ h => h) (Or.inl ⟨by rfl, (by intro w hSw; (try dsimp only at hSw); go_simp)⟩) (by assumption) ?_
                    try simp only [Act.put, List.getElem_toArray, List.getElem_cons_zero, List.getElem_cons_succ, List.setIfInBounds_toArray, List.set_cons_zero, List.set_cons_succ]
                    refine wpAnyH_take (i := 7) (v := .int .i64 x) rfl (by kernel_rfl) (by kernel_rfl) (by kernel_rfl) (fun _ _ _ h => h) (Or.inl ⟨by rfl, (by intro w hSw; (try dsimp only at hSw); go_simp)⟩) (by assumption) ?_
                    try simp only [Act.put, List.getElem_toArray, List.getElem_cons_zero, List.getElem_cons_succ, List.setIfInBounds_toArray, List.set_cons_zero, List.set_cons_succ]
                    refine wpAnyH_ready (rs := [8, 12]) (by kernel_rfl) (by simp) (AllReadyH.cons rfl (fun K hK => ?_) (AllReadyH.cons rfl (fun K hK => ?_) AllReadyH.nil))
                    · skip
                      try simp only [List.getElem_toArray, List.getElem_cons_zero, List.getElem_cons_succ]
                      go_simp
                      refine (HG.out.1.ask HJ.out.stm.sto.cc HAC.out 0 0 1 x (lin_lit (by omega)) (lin_lit (by omega)) (lin_lit (by omega)) (by constructor <;> omega)).mono ?_
                      rintro e we ⟨V2, rfl, hA2, hb⟩
                      rw [HAB.out] at hA2
                      rw [HAB.out]
                      have HA2 := Lib.hid (And.intro hA2 hb)
                      have HJ := Lib.hid (HJ.out.on hb)
                      have hS2 := HJ.out.stm.see (m := m) (by rw [HT.out.2.1]; exact hlt) q9' HV0.out HX.out.2
                      have zV2 := hA2.acc.size
                      have oV2 := hA2.acc.one
                      clear hHeld hA2 hb
                      go_wp2_with fail
                      refine hK.out _ _ hS2 (fun hHeld => ?_)
                      clear hK K hHeld
                      try simp only [Act.put, List.getElem_toArray, List.getElem_cons_zero, List.getElem_cons_succ, List.setIfInBounds_toArray, List.set_cons_zero, List.set_cons_succ]
                      have hHeld := hS2
                      refine wpAnyH_take (i := 9) (v := .tuple #[.agg V2, .bool bb]) rfl (by kernel_rfl) (by kernel_rfl) (by kernel_rfl) (fun _ _ _ h => h) (Or.inl ⟨by rfl, (by intro w hSw; (try dsimp only at hSw); go_simp)⟩) (by assumption) ?_
                      try simp only [Act.put, List.getElem_toArray, List.getElem_cons_zero, List.getElem_cons_succ, List.setIfInBounds_toArray, List.set_cons_zero, List.set_cons_succ]
                      refine wpAnyH_take (i := 10) (v := .agg V2) rfl (by kernel_rfl) (by kernel_rfl) (by kernel_rfl) (fun _ _ _ h => h) (Or.inl ⟨by rfl, (by intro w hSw; (try dsimp only at hSw); go_simp)⟩) (by assumption) ?_
                      try simp only [Act.put, List.getElem_toArray, List.getElem_cons_zero, List.getElem_cons_succ, List.setIfInBounds_toArray, List.set_cons_zero, List.set_cons_succ]
                      refine wpAnyH_take (i := 11) (v := .bool bb) rfl (by kernel_rfl) (by kernel_rfl) (by kernel_rfl) (fun _ _ _ h => h) (Or.inl ⟨by rfl, (by intro w hSw; (try dsimp only at hSw); go_simp)⟩) (by assumption) ?_
                      try simp only [Act.put, List.getElem_toArray, List.getElem_cons_zero, List.getElem_cons_succ, List.setIfInBounds_toArray, List.set_cons_zero, List.set_cons_succ]
                      refine wpAnyH_ready (rs := [12]) (by kernel_rfl) (by simp) (AllReadyH.cons rfl (fun K hK => ?_) AllReadyH.nil)
                      try simp only [List.getElem_toArray, List.getElem_cons_zero, List.getElem_cons_succ]
                      go_simp
                      rw [← az_is]
                      have HZ := Lib.hid (HJ.out.stm.boxA HA2.out.1 HGS.out)
                      have hS3 := (HJ.out.on (below_alloc we (.cells az 45))).stm.see (m := m) (by rw [HT.out.2.1]; exact hlt) q9' HV0.out HX.out.2
                      clear hHeld
                      refine hK.out _ _ hS3 (fun hHeld => ?_)
                      clear hK K hHeld
                      try simp only [Act.put, List.getElem_toArray, List.getElem_cons_zero, List.getElem_cons_succ, List.setIfInBounds_toArray, List.set_cons_zero, List.set_cons_succ]
                      have hHeld := hS3
                      generalize we.alloc (.cells az 45) = wf at *
                      generalize we.heap.size = gb at *
                      refine wpAnyH_ready (rs := [13]) (by kernel_rfl) (by simp) (AllReadyH.cons rfl (fun K hK => ?_) AllReadyH.nil)
                      try simp only [List.getElem_toArray, List.getElem_cons_zero, List.getElem_cons_succ]
                      refine if_wanted (by rfl) ?_
                      refine wp_store_row 45 (.tmp 22) (.tmp 127) rfl gb V2 rfl rfl 45 az HZ.out.box (by rw [zV2]; exact info_acc) (by rw [zV2, az_is]; rfl) oV2 ?_
                      have HW := Lib.hid HZ.out.put
                      have hS4 := HW.out.stm.see (m := m) (by rw [HT.out.2.1]; exact hlt) q9' HV0.out HX.out.2
                      clear hHeld
                      refine hK.out _ _ hS4 (fun hHeld => ?_)
                      clear hK K hHeld
                      try simp only [Act.put, List.getElem_toArray, List.getElem_cons_zero, List.getElem_cons_succ, List.setIfInBounds_toArray, List.set_cons_zero, List.set_cons_succ]
                      have hHeld := hS4
                      refine wpAnyH_take (i := 14) (v := .bool bb) rfl (by kernel_rfl) (by kernel_rfl) (by kernel_rfl) (fun _ _ _ h => h) (Or.inl ⟨by rfl, (by intro w hSw; (try dsimp only at hSw); go_simp)⟩) (by assumption) ?_
                      try simp only [Act.put, List.getElem_toArray, List.getElem_cons_zero, List.getElem_cons_succ, List.setIfInBounds_toArray, List.set_cons_zero, List.set_cons_succ]
                      refine wpAnyH_done (by kernel_rfl) ?_ _
                      go_wp2
                      go_meet
                      case rel => exact ⟨_, V2, rfl, rfl, HW⟩
                    · skip
                      try simp only [List.getElem_toArray, List.getElem_cons_zero, List.getElem_cons_succ]
                      go_simp
                      rw [← az_is]
                      have HJD := Lib.hid HJ.out.stm
                      have hba := below_alloc wd (.cells az 45)
                      have HJ := Lib.hid (HJ.out.on hba)
                      have HAC := Lib.hid (HAC.out.on hba)
                      have hS3 := HJ.out.stm.see (m := m) (by rw [HT.out.2.1]; exact hlt) q9' HV0.out HX.out.2
                      clear hHeld hba
                      refine hK.out _ _ hS3 (fun hHeld => ?_)
                      clear hK K hHeld
                      try simp only [Act.put, List.getElem_toArray, List.getElem_cons_zero, List.getElem_cons_succ, List.setIfInBounds_toArray, List.set_cons_zero, List.set_cons_succ]
                      have hHeld := hS3
                      refine wpAnyH_ready (rs := [8]) (by kernel_rfl) (by simp) (AllReadyH.cons rfl (fun K hK => ?_) AllReadyH.nil)
                      try simp only [List.getElem_toArray, List.getElem_cons_zero, List.getElem_cons_succ]
                      go_simp
                      refine (HG.out.1.ask HJ.out.stm.sto.cc HAC.out 0 0 1 x (lin_lit (by omega)) (lin_lit (by omega)) (lin_lit (by omega)) (by constructor <;> omega)).mono ?_
                      rintro e we ⟨V2, rfl, hA2, hb⟩
                      rw [HAB.out] at hA2
                      rw [HAB.out]
                      have HA2 := Lib.hid (And.intro hA2 hb)
                      have HJ := Lib.hid (HJ.out.on hb)
                      have hS2 := HJ.out.stm.see (m := m) (by rw [HT.out.2.1]; exact hlt) q9' HV0.out HX.out.2
                      have zV2 := hA2.acc.size
                      have oV2 := hA2.acc.one
                      clear hHeld hA2 hb
                      go_wp2_with fail
                      refine hK.out _ _ hS2 (fun hHeld => ?_)
                      clear hK K hHeld
                      try simp only [Act.put, List.getElem_toArray, List.getElem_cons_zero, List.getElem_cons_succ, List.setIfInBounds_toArray, List.set_cons_zero, List.set_cons_succ]
                      have hHeld := hS2
                      refine wpAnyH_take (i := 9) (v := .tuple #[.agg V2, .bool bb]) rfl (by kernel_rfl) (by kernel_rfl) (by kernel_rfl) (fun _ _ _ h => h) (Or.inl ⟨by rfl, (by intro w hSw; (try dsimp only at hSw); go_simp)⟩) (by assumption) ?_
                      try simp only [Act.put, List.getElem_toArray, List.getElem_cons_zero, List.getElem_cons_succ, List.setIfInBounds_toArray, List.set_cons_zero, List.set_cons_succ]
                      refine wpAnyH_take (i := 10) (v := .agg V2) rfl (by kernel_rfl) (by kernel_rfl) (by kernel_rfl) (fun _ _ _ h => h) (Or.inl ⟨by rfl, (by intro w hSw; (try dsimp only at hSw); go_simp)⟩) (by assumption) ?_
                      try simp only [Act.put, List.getElem_toArray, List.getElem_cons_zero, List.getElem_cons_succ, List.setIfInBounds_toArray, List.set_cons_zero, List.set_cons_succ]
                      refine wpAnyH_take (i := 11) (v := .bool bb) rfl (by kernel_rfl) (by kernel_rfl) (by kernel_rfl) (fun _ _ _ h => h) (Or.inl ⟨by rfl, (by intro w hSw; (try dsimp only at hSw); go_simp)⟩) (by assumption) ?_
                      try simp only [Act.put, List.getElem_toArray, List.getElem_cons_zero, List.getElem_cons_succ, List.setIfInBounds_toArray, List.set_cons_zero, List.set_cons_succ]
                      have HZ := Lib.hid (HJD.out.boxB HA2.out.2 HA2.out.1 HGS.out)
                      generalize wd.heap.size = gb at *
                      refine wpAnyH_ready (rs := [13]) (by kernel_rfl) (by simp) (AllReadyH.cons rfl (fun K hK => ?_) AllReadyH.nil)
                      try simp only [List.getElem_toArray, List.getElem_cons_zero, List.getElem_cons_succ]
                      refine if_wanted (by rfl) ?_
                      refine wp_store_row 45 (.tmp 22) (.tmp 127) rfl gb V2 rfl rfl 45 az HZ.out.box (by rw [zV2]; exact info_acc) (by rw [zV2, az_is]; rfl) oV2 ?_
                      have HW := Lib.hid HZ.out.put
                      have hS4 := HW.out.stm.see (m := m) (by rw [HT.out.2.1]; exact hlt) q9' HV0.out HX.out.2
                      clear hHeld
                      refine hK.out _ _ hS4 (fun hHeld => ?_)
                      clear hK K hHeld
                      try simp only [Act.put, List.getElem_toArray, List.getElem_cons_zero, List.getElem_cons_succ, List.setIfInBounds_toArray, List.set_cons_zero, List.set_cons_succ]
                      have hHeld := hS4
                      refine wpAnyH_take (i := 14) (v := .bool bb) rfl (by kernel_rfl) (by kernel_rfl) (by kernel_rfl) (fun _ _ _ h => h) (Or.inl ⟨by rfl, (by intro w hSw; (try dsimp only at hSw); go_simp)⟩) (by assumption) ?_
                      try simp only [Act.put, List.getElem_toArray, List.getElem_cons_zero, List.getElem_cons_succ, List.setIfInBounds_toArray, List.set_cons_zero, List.set_cons_succ]
                      refine wpAnyH_done (by kernel_rfl) ?_ _
                      go_wp2
                      go_meet
                      case rel => exact ⟨_, V2, rfl, rfl, HW⟩
                  obtain ⟨gb, V2, rfl, rfl, HBX⟩ := hcut
                  have zV2 := HBX.out.acc.acc.size
                  have oV2 := HBX.out.acc.acc.one
                  have HJW : Hid (Big g w _ g gC gR gA gB C k (fun _ => t + 1) (fun q => if q < m then t + 1 else t) (fun q => if q < m then t + 1 else t) (9 * t + m) (9 * t + m) true fb cl VS ac VA VB a b) := Lib.hid ⟨HBX.out.stm, HJ.out.clk, HJ.out.nod, HJ.out.isA, HJ.out.isB, HJ.out.lenA, HJ.out.lenB⟩
                  have HACV := Lib.hid HAC.out.2
                  have hlen := accRow_len HBX.out.stm.sto.vs
                  have hmN : m < k.N := by rw [HT.out.2.1]; exact hlt
                  clear HJ HAC k0 rg
                  go_upto_region 36 with (first
                    | ((with_reducible show wpList _ _ _ ((⟨some 131, Op.load 45 (.tmp 22), _, _, _, _⟩ : Oper) :: _) _ _); refine wpList_load_rowG (by rfl) _ (.tmp 22) rfl gb rfl 45 V2 (0, 0) _ HBX.out.box und rfl (by rw [zV2]; exact info_acc) ?_)
                    | ((with_reducible show wpList _ _ _ ((⟨_, Op.store 45 (.tmp 132) _, _, _, _, _⟩ : Oper) :: _) _ _); refine wpList_store_part rfl _ (.tmp 132) (.tmp 131) rfl gR (m * 2) V2.toList rfl rfl HBX.out.stm.sto.row (by rw [Array.length_toList, zV2]; exact info_acc) (fun v hv => (Array.all_eq_true_iff_forall_mem.1 oV2) v (by simpa using hv)) (by rw [Array.length_toList, zV2, hlen]; omega) ?_)
                    | fail)
                  have HS := Lib.hid (HBX.out.stm.setR hmN HBX.out.acc)
                  by_cases hg : Gt.grants k.p a0 0 0 1 x
                  case neg =>
                    have hq : (a0, false) = (a2, bb) := by rw [← HAB.out]; exact (if_neg hg).symm
                    injection hq with e1 e2
                    subst e1 e2
                    have HL := Lib.hid ((HJW.out.same hmN (by rw [HACV.out.2]; exact HBX.out.acc)).keepA)
                    clear HS hg
                    go_wp2
                    go_meet
                    case rel => exact ⟨rfl, HL⟩
                  have hq : (Gt.put a0 0 ⟨0, 1, x⟩, true) = (a2, bb) := by rw [← HAB.out]; exact (if_pos hg).symm
                  injection hq with e1 e2
                  subst e1 e2
                  have HGR := Lib.hid hg
                  clear hg hlen
                  generalize wc.setRow gR (splice (accRow VS k.N) (m * 2) V2.toList).toArray = we at *
                  have hgs : ∀ q ∈ [g, gC, gR, gA, gB], q < we.heap.size := by
                    intro q hq
                    have h1 := HS.out.sto.plan.lt
                    have h2 := HS.out.sto.clock.lt
                    have h3 := HS.out.sto.row.lt
                    have h4 := HS.out.ba.lt
                    have h5 := HS.out.bb.lt
                    simp at hq
                    omega
                  have HGS := Lib.hid hgs
                  have zA := HS.out.la.lse.size
                  clear hgs
                  go_wp2_with (first | ((with_reducible show wpList _ _ _ ((⟨some 134, Op.load 24 (.tmp 5), _, _, _, _⟩ : Oper) :: _) _ _); refine wpList_load_rowG (by rfl) _ (.tmp 5) rfl g rfl 24 C (0, 0) _ HS.out.sto.plan Try.underlying24 rfl (by rw [h11]; exact info11) ?_) | ((with_reducible show wpList _ _ _ ((⟨some 135, Op.load 26 (.tmp 15), _, _, _, _⟩ : Oper) :: _) _ _); refine wpList_load_rowG (by rfl) _ (.tmp 15) rfl gA rfl 26 VA (0, 0) _ HS.out.ba Try.underlying26 rfl (by rw [zA]; exact info_ls) ?_) | fail)
                  refine (HG.out.2.1.grant HS.out.sto.cc HS.out.la (by have := HJW.out.lenA; omega) (m : Int) 0 1 (by constructor <;> omega) (lin_lit (by omega)) (lin_lit (by omega))).mono ?_
                  rintro e wf ⟨V3, rfl, hl3, hb3⟩
                  have z3 := hl3.lse.size
                  have o3 := hl3.lse.one
                  have HS2 := Lib.hid (HS.out.on hb3)
                  have HS3 := Lib.hid (HS2.out.setA (HS.out.ansL HGS.out hl3))
                  have hts : t = k.TA + k.wA m := by rw [HT.out.2.2.2.1, HT.out.2.2.2.2.2.1, HSS.out.1]; exact HTS.out
                  have HL := Lib.hid (HJW.out.stepA HO.out.1 HO.out.2 hmN hts HX.out.1 HACV.out.2 HGR.out HBX.out.acc HS3.out)
                  clear hts
                  clear hl3 hb3 HS HS3
                  go_wp2_with (first | ((with_reducible show wpList _ _ _ ((⟨_, Op.store 26 (.tmp 15) _, _, _, _, _⟩ : Oper) :: _) _ _); refine wpList_store_row rfl 26 (.tmp 15) (.tmp 137) rfl gA V3 rfl rfl 26 VA HS2.out.ba (by rw [z3]; exact info_ls) (by rw [z3, zA]) o3 ?_) | fail)
                  go_meet
                  case rel => exact ⟨rfl, HL⟩
              obtain ⟨rfl, HJC⟩ := hcut
              clear HJ HZB
              obtain ⟨cl, VS, ac, VA, VB, a, b, hJ⟩ := HJC.out
              have HJ := Lib.hid hJ
              clear hJ HJC
              go_upto_region 38 with fail
              go_cut [150] (fun v wx => v = .bool (fb && decide (t = sB)) ∧ wx = wc)
              case first => as_aux_lemma =>
                cases fb with
                | false =>
                  go_wp2
                  go_meet
                  case rel => exact ⟨rfl, rfl⟩
                | true =>
                  have r1 : (B : Int).tmod 60 = (TB : Int) := by rw [← HTT.out.2]; rfl
                  have r2 : (B : Int) % 60 = (TB : Int) := by rw [← HTT.out.2]; rfl
                  have hw9 : IntKind.i64.wrap ((m : Int) + 9) = (m9 : Int) := by rw [IntKind.wrap_i64]; omega
                  have hw3 : IntKind.i64.wrap ((TB : Int) + (wvB : Int)) = (sB : Int) := by rw [IntKind.wrap_i64]; omega
                  have hq : ((t : Int) == (sB : Int)) = decide (t = sB) := by
                    by_cases e : t = sB
                    · simp [e]
                    · rw [decide_eq_false e]; simp; omega
                  go_wp2_with fail
                  refine (wait_any (HR.out.2.below HJ.out.stm.sto.below (fun _ _ h => h)) m9 (by omega)).mono ?_
                  rintro e wq ⟨rfl, rfl⟩
                  rw [HWV.out.2]
                  go_wp2
                  go_meet
                  case rel => exact ⟨rfl, rfl⟩
              obtain ⟨rfl, rfl⟩ := hcut
              obtain ⟨zb, hzb⟩ : ∃ z, (fb && decide (t = sB)) = z := ⟨_, rfl⟩
              have HZB : Hid (zb = true → fb = true ∧ t = sB) := Lib.hid (fun h => by rw [← hzb, Bool.and_eq_true] at h; exact ⟨h.1, of_decide_eq_true h.2⟩)
              rw [hzb]
              clear hzb
              go_upto_if 150 with fail
              cases zb with
              | false =>
                have HL := Lib.hid HJ.out.keepB
                go_wp2
                go_roundw
                case rel => exact ⟨m + 1, by omega, by go_num, HL⟩
                case measure => simp [intOf]; omega
              | true =>
                obtain ⟨rfl, hts⟩ := HZB.out rfl
                have HTS := Lib.hid hts
                clear hts
                obtain ⟨x, hx⟩ : ∃ v, cl m = v := ⟨_, rfl⟩
                have hxc := HJ.out.clk m (by rw [HT.out.2.1]; exact hlt)
                have hxb := Mt.ck_in HO.out.1 k.told m (t + 1) (by omega)
                rw [← hxc, hx] at hxb
                have k0 := HJ.out.stm.sto.cell q9'
                rw [hx] at hxc k0
                have HX := Lib.hid (And.intro hxc hx)
                have hac := HJ.out.stm.sto.acc m (by rw [HT.out.2.1]; exact hlt)
                have rg := HJ.out.stm.sto.range (n := m) (by rw [HT.out.2.1]; exact hlt)
                obtain ⟨V, hV⟩ : ∃ V, VS m = V := ⟨_, rfl⟩
                obtain ⟨a0, ha0⟩ : ∃ a0, ac m = a0 := ⟨_, rfl⟩
                rw [hV] at hac rg
                rw [ha0] at hac
                have zV := hac.acc.size
                have HAC := Lib.hid (And.intro hac (And.intro hV ha0))
                obtain ⟨a2, bb, hab⟩ : ∃ a2 bb, Gt.ask k.p a0 0 1 1 x = (a2, bb) := ⟨_, _, rfl⟩
                have HAB := Lib.hid hab
                clear hxc hx hac hV ha0 hab
                have und := Try.underlying45
                have iV : (Try.prog.info? 45).map (·.size) = some V.toList.length := by rw [Array.length_toList, zV]; exact info_acc
                go_upto_region 39 with fail
                go_cut [24, 25] (fun v v2 wx => ∃ gb V2, v = .pointer (some ⟨gb, 0, none⟩) ∧ v2 = .bool bb ∧ Hid (Bxw g w wx g gC gR gA gB C k.p cl k.N VS ac VA VB a b gb V2 a2))
                case first => as_aux_lemma =>
                  have HGS := Lib.hid HJ.out.gs
                  have HJ := Lib.hid (HJ.out.on (Below.refl _ _).drew)
                  have HV0 := Lib.hid HAC.out.2.1
                  have HAC := Lib.hid ((HAC.out.1.on (Below.refl _ _).drew).weak (S' := fun b => b ∉ [g, gC, gR, gA, gB] ∧ b < wc.drew.heap.size) (fun b hb hx => ⟨hx, hb⟩))
                  have hHeld0 : Whole wc.drew g 24 C ∧ wc.drew.rangeAt gR (m * 2) V.toList ∧ wc.drew.cell? ⟨gC, m, none⟩ = some (.int .i64 x) := ⟨HJ.out.stm.sto.plan, rg, k0⟩
                  refine wp_region_held_drew (S := fun wq => Whole wq g 24 C ∧ wq.rangeAt gR (m * 2) V.toList ∧ wq.cell? ⟨gC, m, none⟩ = some (.int .i64 x)) (by kernel_rfl) hHeld0 (fun hHeld => ?_)
                  have HGS : Hid (∀ y ∈ [g, gC, gR, gA, gB], y < wc.drew.heap.size) := Lib.hid HJ.out.gs
                  generalize wc.drew = wd at *
                  clear rg k0
                  refine wpAnyH_take (i := 0) (v := .agg C) rfl (by kernel_rfl) (by kernel_rfl) (by kernel_rfl) (fun _ _ _ h => h) (yields_lp (by rfl) _ rfl g rfl C h11 (fun wq hSw => hSw.1)) (by assumption) ?_
                  try simp only [Act.put, List.getElem_toArray, List.getElem_cons_zero, List.getElem_cons_succ, List.setIfInBounds_toArray, List.set_cons_zero, List.set_cons_succ]
                  refine wpAnyH_take (i := 1) (v := .slice (some ⟨gR, 0, none⟩) n n) rfl (by kernel_rfl) (by kernel_rfl) (by kernel_rfl) (fun _ _ _ h => h) (Or.inl ⟨by rfl, (by intro w hSw; (try dsimp only at hSw); go_simp)⟩) (by assumption) ?_
                  try simp only [Act.put, List.getElem_toArray, List.getElem_cons_zero, List.getElem_cons_succ, List.setIfInBounds_toArray, List.set_cons_zero, List.set_cons_succ]
                  refine wpAnyH_take (i := 2) (v := .int .i64 (m : Int)) rfl (by kernel_rfl) (by kernel_rfl) (by kernel_rfl) (fun _ _ _ h => h) (Or.inl ⟨by rfl, (by intro w hSw; (try dsimp only at hSw); go_simp)⟩) (by assumption) ?_
                  try simp only [Act.put, List.getElem_toArray, List.getElem_cons_zero, List.getElem_cons_succ, List.setIfInBounds_toArray, List.set_cons_zero, List.set_cons_succ]
                  refine wpAnyH_take (i := 3) (v := .pointer (some ⟨gR, m * 2, none⟩)) rfl (by kernel_rfl) (by kernel_rfl) (by kernel_rfl) (fun _ _ _ h => h) (Or.inl ⟨by rfl, (by intro w hSw; (try dsimp only at hSw); go_simp)⟩) (by assumption) ?_
                  try simp only [Act.put, List.getElem_toArray, List.getElem_cons_zero, List.getElem_cons_succ, List.setIfInBounds_toArray, List.set_cons_zero, List.set_cons_succ]
                  refine wpAnyH_take (i := 4) (v := .agg V) rfl (by kernel_rfl) (by kernel_rfl) (by kernel_rfl) (fun _ _ _ h => h) (yieldsIf_load_mid (by rfl) _ _ rfl _ _ rfl V.toList _ (fun w hSw => hSw.2.1) und rfl iV) (by assumption) ?_
                  try simp only [Act.put, List.getElem_toArray, List.getElem_cons_zero, List.getElem_cons_succ, List.setIfInBounds_toArray, List.set_cons_zero, List.set_cons_succ]
                  refine wpAnyH_take (i := 5) (v := .int .i64 (m : Int)) rfl (by kernel_rfl) (by kernel_rfl) (by kernel_rfl) (fun _ _ _ h => h) (Or.inl ⟨by rfl, (by intro w hSw; (try dsimp only at hSw); go_simp)⟩) (by assumption) ?_
                  try simp only [Act.put, List.getElem_toArray, List.getElem_cons_zero, List.getElem_cons_succ, List.setIfInBounds_toArray, List.set_cons_zero, List.set_cons_succ]
                  refine wpAnyH_take (i := 6) (v := .pointer (some ⟨gC, m, none⟩)) rfl (by kernel_rfl) (by kernel_rfl) (by kernel_rfl) (fun _ _ _ h => h) (Or.inl ⟨by rfl, (by intro w hSw; (try dsimp only at hSw); go_simp)⟩) (by assumption) ?_
                  try simp only [Act.put, List.getElem_toArray, List.getElem_cons_zero, List.getElem_cons_succ, List.setIfInBounds_toArray, List.set_cons_zero, List.set_cons_succ]
                  refine wpAnyH_take (i := 7) (v := .int .i64 x) rfl (by kernel_rfl) (by kernel_rfl) (by kernel_rfl) (fun _ _ _ h => h) (Or.inl ⟨by rfl, (by intro w hSw; (try dsimp only at hSw); go_simp)⟩) (by assumption) ?_
                  try simp only [Act.put, List.getElem_toArray, List.getElem_cons_zero, List.getElem_cons_succ, List.setIfInBounds_toArray, List.set_cons_zero, List.set_cons_succ]
                  refine wpAnyH_ready (rs := [8, 12]) (by kernel_rfl) (by simp) (AllReadyH.cons rfl (fun K hK => ?_) (AllReadyH.cons rfl (fun K hK => ?_) AllReadyH.nil))
                  · skip
                    try simp only [List.getElem_toArray, List.getElem_cons_zero, List.getElem_cons_succ]
                    go_simp
                    refine (HG.out.1.ask HJ.out.stm.sto.cc HAC.out 0 1 1 x (lin_lit (by omega)) (lin_lit (by omega)) (lin_lit (by omega)) (by constructor <;> omega)).mono ?_
                    rintro e we ⟨V2, rfl, hA2, hb⟩
                    rw [HAB.out] at hA2
                    rw [HAB.out]
                    have HA2 := Lib.hid (And.intro hA2 hb)
                    have HJ := Lib.hid (HJ.out.on hb)
                    have hS2 := HJ.out.stm.see (m := m) (by rw [HT.out.2.1]; exact hlt) q9' HV0.out HX.out.2
                    have zV2 := hA2.acc.size
                    have oV2 := hA2.acc.one
                    clear hHeld hA2 hb
                    go_wp2_with fail
                    refine hK.out _ _ hS2 (fun hHeld => ?_)
                    clear hK K hHeld
                    try simp only [Act.put, List.getElem_toArray, List.getElem_cons_zero, List.getElem_cons_succ, List.setIfInBounds_toArray, List.set_cons_zero, List.set_cons_succ]
                    have hHeld := hS2
                    refine wpAnyH_take (i := 9) (v := .tuple #[.agg V2, .bool bb]) rfl (by kernel_rfl) (by kernel_rfl) (by kernel_rfl) (fun _ _ _ h => h) (Or.inl ⟨by rfl, (by intro w hSw; (try dsimp only at hSw); go_simp)⟩) (by assumption) ?_
                    try simp only [Act.put, List.getElem_toArray, List.getElem_cons_zero, List.getElem_cons_succ, List.setIfInBounds_toArray, List.set_cons_zero, List.set_cons_succ]
                    refine wpAnyH_take (i := 10) (v := .agg V2) rfl (by kernel_rfl) (by kernel_rfl) (by kernel_rfl) (fun _ _ _ h => h) (Or.inl ⟨by rfl, (by intro w hSw; (try dsimp only at hSw); go_simp)⟩) (by assumption) ?_
                    try simp only [Act.put, List.getElem_toArray, List.getElem_cons_zero, List.getElem_cons_succ, List.setIfInBounds_toArray, List.set_cons_zero, List.set_cons_succ]
                    refine wpAnyH_take (i := 11) (v := .bool bb) rfl (by kernel_rfl) (by kernel_rfl) (by kernel_rfl) (fun _ _ _ h => h) (Or.inl ⟨by rfl, (by intro w hSw; (try dsimp only at hSw); go_simp)⟩) (by assumption) ?_
                    try simp only [Act.put, List.getElem_toArray, List.getElem_cons_zero, List.getElem_cons_succ, List.setIfInBounds_toArray, List.set_cons_zero, List.set_cons_succ]
                    refine wpAnyH_ready (rs := [12]) (by kernel_rfl) (by simp) (AllReadyH.cons rfl (fun K hK => ?_) AllReadyH.nil)
                    try simp only [List.getElem_toArray, List.getElem_cons_zero, List.getElem_cons_succ]
                    go_simp
                    rw [← az_is]
                    have HZ := Lib.hid (HJ.out.stm.boxA HA2.out.1 HGS.out)
                    have hS3 := (HJ.out.on (below_alloc we (.cells az 45))).stm.see (m := m) (by rw [HT.out.2.1]; exact hlt) q9' HV0.out HX.out.2
                    clear hHeld
                    refine hK.out _ _ hS3 (fun hHeld => ?_)
                    clear hK K hHeld
                    try simp only [Act.put, List.getElem_toArray, List.getElem_cons_zero, List.getElem_cons_succ, List.setIfInBounds_toArray, List.set_cons_zero, List.set_cons_succ]
                    have hHeld := hS3
                    generalize we.alloc (.cells az 45) = wf at *
                    generalize we.heap.size = gb at *
                    refine wpAnyH_ready (rs := [13]) (by kernel_rfl) (by simp) (AllReadyH.cons rfl (fun K hK => ?_) AllReadyH.nil)
                    try simp only [List.getElem_toArray, List.getElem_cons_zero, List.getElem_cons_succ]
                    refine if_wanted (by rfl) ?_
                    refine wp_store_row 45 (.tmp 24) (.tmp 161) rfl gb V2 rfl rfl 45 az HZ.out.box (by rw [zV2]; exact info_acc) (by rw [zV2, az_is]; rfl) oV2 ?_
                    have HW := Lib.hid HZ.out.put
                    have hS4 := HW.out.stm.see (m := m) (by rw [HT.out.2.1]; exact hlt) q9' HV0.out HX.out.2
                    clear hHeld
                    refine hK.out _ _ hS4 (fun hHeld => ?_)
                    clear hK K hHeld
                    try simp only [Act.put, List.getElem_toArray, List.getElem_cons_zero, List.getElem_cons_succ, List.setIfInBounds_toArray, List.set_cons_zero, List.set_cons_succ]
                    have hHeld := hS4
                    refine wpAnyH_take (i := 14) (v := .bool bb) rfl (by kernel_rfl) (by kernel_rfl) (by kernel_rfl) (fun _ _ _ h => h) (Or.inl ⟨by rfl, (by intro w hSw; (try dsimp only at hSw); go_simp)⟩) (by assumption) ?_
                    try simp only [Act.put, List.getElem_toArray, List.getElem_cons_zero, List.getElem_cons_succ, List.setIfInBounds_toArray, List.set_cons_zero, List.set_cons_succ]
                    refine wpAnyH_done (by kernel_rfl) ?_ _
                    go_wp2
                    go_meet
                    case rel => exact ⟨_, V2, rfl, rfl, HW⟩
                  · skip
                    try simp only [List.getElem_toArray, List.getElem_cons_zero, List.getElem_cons_succ]
                    go_simp
                    rw [← az_is]
                    have HJD := Lib.hid HJ.out.stm
                    have hba := below_alloc wd (.cells az 45)
                    have HJ := Lib.hid (HJ.out.on hba)
                    have HAC := Lib.hid (HAC.out.on hba)
                    have hS3 := HJ.out.stm.see (m := m) (by rw [HT.out.2.1]; exact hlt) q9' HV0.out HX.out.2
                    clear hHeld hba
                    refine hK.out _ _ hS3 (fun hHeld => ?_)
                    clear hK K hHeld
                    try simp only [Act.put, List.getElem_toArray, List.getElem_cons_zero, List.getElem_cons_succ, List.setIfInBounds_toArray, List.set_cons_zero, List.set_cons_succ]
                    have hHeld := hS3
                    refine wpAnyH_ready (rs := [8]) (by kernel_rfl) (by simp) (AllReadyH.cons rfl (fun K hK => ?_) AllReadyH.nil)
                    try simp only [List.getElem_toArray, List.getElem_cons_zero, List.getElem_cons_succ]
                    go_simp
                    refine (HG.out.1.ask HJ.out.stm.sto.cc HAC.out 0 1 1 x (lin_lit (by omega)) (lin_lit (by omega)) (lin_lit (by omega)) (by constructor <;> omega)).mono ?_
                    rintro e we ⟨V2, rfl, hA2, hb⟩
                    rw [HAB.out] at hA2
                    rw [HAB.out]
                    have HA2 := Lib.hid (And.intro hA2 hb)
                    have HJ := Lib.hid (HJ.out.on hb)
                    have hS2 := HJ.out.stm.see (m := m) (by rw [HT.out.2.1]; exact hlt) q9' HV0.out HX.out.2
                    have zV2 := hA2.acc.size
                    have oV2 := hA2.acc.one
                    clear hHeld hA2 hb
                    go_wp2_with fail
                    refine hK.out _ _ hS2 (fun hHeld => ?_)
                    clear hK K hHeld
                    try simp only [Act.put, List.getElem_toArray, List.getElem_cons_zero, List.getElem_cons_succ, List.setIfInBounds_toArray, List.set_cons_zero, List.set_cons_succ]
                    have hHeld := hS2
                    refine wpAnyH_take (i := 9) (v := .tuple #[.agg V2, .bool bb]) rfl (by kernel_rfl) (by kernel_rfl) (by kernel_rfl) (fun _ _ _ h => h) (Or.inl ⟨by rfl, (by intro w hSw; (try dsimp only at hSw); go_simp)⟩) (by assumption) ?_
                    try simp only [Act.put, List.getElem_toArray, List.getElem_cons_zero, List.getElem_cons_succ, List.setIfInBounds_toArray, List.set_cons_zero, List.set_cons_succ]
                    refine wpAnyH_take (i := 10) (v := .agg V2) rfl (by kernel_rfl) (by kernel_rfl) (by kernel_rfl) (fun _ _ _ h => h) (Or.inl ⟨by rfl, (by intro w hSw; (try dsimp only at hSw); go_simp)⟩) (by assumption) ?_
                    try simp only [Act.put, List.getElem_toArray, List.getElem_cons_zero, List.getElem_cons_succ, List.setIfInBounds_toArray, List.set_cons_zero, List.set_cons_succ]
                    refine wpAnyH_take (i := 11) (v := .bool bb) rfl (by kernel_rfl) (by kernel_rfl) (by kernel_rfl) (fun _ _ _ h => h) (Or.inl ⟨by rfl, (by intro w hSw; (try dsimp only at hSw); go_simp)⟩) (by assumption) ?_
                    try simp only [Act.put, List.getElem_toArray, List.getElem_cons_zero, List.getElem_cons_succ, List.setIfInBounds_toArray, List.set_cons_zero, List.set_cons_succ]
                    have HZ := Lib.hid (HJD.out.boxB HA2.out.2 HA2.out.1 HGS.out)
                    generalize wd.heap.size = gb at *
                    refine wpAnyH_ready (rs := [13]) (by kernel_rfl) (by simp) (AllReadyH.cons rfl (fun K hK => ?_) AllReadyH.nil)
                    try simp only [List.getElem_toArray, List.getElem_cons_zero, List.getElem_cons_succ]
                    refine if_wanted (by rfl) ?_
                    refine wp_store_row 45 (.tmp 24) (.tmp 161) rfl gb V2 rfl rfl 45 az HZ.out.box (by rw [zV2]; exact info_acc) (by rw [zV2, az_is]; rfl) oV2 ?_
                    have HW := Lib.hid HZ.out.put
                    have hS4 := HW.out.stm.see (m := m) (by rw [HT.out.2.1]; exact hlt) q9' HV0.out HX.out.2
                    clear hHeld
                    refine hK.out _ _ hS4 (fun hHeld => ?_)
                    clear hK K hHeld
                    try simp only [Act.put, List.getElem_toArray, List.getElem_cons_zero, List.getElem_cons_succ, List.setIfInBounds_toArray, List.set_cons_zero, List.set_cons_succ]
                    have hHeld := hS4
                    refine wpAnyH_take (i := 14) (v := .bool bb) rfl (by kernel_rfl) (by kernel_rfl) (by kernel_rfl) (fun _ _ _ h => h) (Or.inl ⟨by rfl, (by intro w hSw; (try dsimp only at hSw); go_simp)⟩) (by assumption) ?_
                    try simp only [Act.put, List.getElem_toArray, List.getElem_cons_zero, List.getElem_cons_succ, List.setIfInBounds_toArray, List.set_cons_zero, List.set_cons_succ]
                    refine wpAnyH_done (by kernel_rfl) ?_ _
                    go_wp2
                    go_meet
                    case rel => exact ⟨_, V2, rfl, rfl, HW⟩
                obtain ⟨gb, V2, rfl, rfl, HBX⟩ := hcut
                have zV2 := HBX.out.acc.acc.size
                have oV2 := HBX.out.acc.acc.one
                have HJW : Hid (Big g w _ g gC gR gA gB C k (fun _ => t + 1) (fun q => if q < m + 1 then t + 1 else t) (fun q => if q < m then t + 1 else t) (9 * t + m + 1) (9 * t + m) fa true cl VS ac VA VB a b) := Lib.hid ⟨HBX.out.stm, HJ.out.clk, HJ.out.nod, HJ.out.isA, HJ.out.isB, HJ.out.lenA, HJ.out.lenB⟩
                have HACV := Lib.hid HAC.out.2
                have hlen := accRow_len HBX.out.stm.sto.vs
                have hmN : m < k.N := by rw [HT.out.2.1]; exact hlt
                clear HJ HAC k0 rg
                go_upto_region 41 with (first
                  | ((with_reducible show wpList _ _ _ ((⟨some 165, Op.load 45 (.tmp 24), _, _, _, _⟩ : Oper) :: _) _ _); refine wpList_load_rowG (by rfl) _ (.tmp 24) rfl gb rfl 45 V2 (0, 0) _ HBX.out.box und rfl (by rw [zV2]; exact info_acc) ?_)
                  | ((with_reducible show wpList _ _ _ ((⟨_, Op.store 45 (.tmp 166) _, _, _, _, _⟩ : Oper) :: _) _ _); refine wpList_store_part rfl _ (.tmp 166) (.tmp 165) rfl gR (m * 2) V2.toList rfl rfl HBX.out.stm.sto.row (by rw [Array.length_toList, zV2]; exact info_acc) (fun v hv => (Array.all_eq_true_iff_forall_mem.1 oV2) v (by simpa using hv)) (by rw [Array.length_toList, zV2, hlen]; omega) ?_)
                  | fail)
                have HS := Lib.hid (HBX.out.stm.setR hmN HBX.out.acc)
                by_cases hg : Gt.grants k.p a0 0 1 1 x
                case neg =>
                  have hq : (a0, false) = (a2, bb) := by rw [← HAB.out]; exact (if_neg hg).symm
                  injection hq with e1 e2
                  subst e1 e2
                  have HL := Lib.hid ((HJW.out.same hmN (by rw [HACV.out.2]; exact HBX.out.acc)).keepB)
                  clear HS hg
                  go_wp2
                  go_roundw
                  case rel => exact ⟨m + 1, by omega, by go_num, HL⟩
                  case measure => simp [intOf]; omega
                have hq : (Gt.put a0 0 ⟨1, 1, x⟩, true) = (a2, bb) := by rw [← HAB.out]; exact (if_pos hg).symm
                injection hq with e1 e2
                subst e1 e2
                have HGR := Lib.hid hg
                clear hg hlen
                generalize wc.setRow gR (splice (accRow VS k.N) (m * 2) V2.toList).toArray = we at *
                have hgs : ∀ q ∈ [g, gC, gR, gA, gB], q < we.heap.size := by
                  intro q hq
                  have h1 := HS.out.sto.plan.lt
                  have h2 := HS.out.sto.clock.lt
                  have h3 := HS.out.sto.row.lt
                  have h4 := HS.out.ba.lt
                  have h5 := HS.out.bb.lt
                  simp at hq
                  omega
                have HGS := Lib.hid hgs
                have zA := HS.out.lb.lse.size
                clear hgs
                go_wp2_with (first | ((with_reducible show wpList _ _ _ ((⟨some 168, Op.load 24 (.tmp 5), _, _, _, _⟩ : Oper) :: _) _ _); refine wpList_load_rowG (by rfl) _ (.tmp 5) rfl g rfl 24 C (0, 0) _ HS.out.sto.plan Try.underlying24 rfl (by rw [h11]; exact info11) ?_) | ((with_reducible show wpList _ _ _ ((⟨some 169, Op.load 26 (.tmp 16), _, _, _, _⟩ : Oper) :: _) _ _); refine wpList_load_rowG (by rfl) _ (.tmp 16) rfl gB rfl 26 VB (0, 0) _ HS.out.bb Try.underlying26 rfl (by rw [zA]; exact info_ls) ?_) | fail)
                refine (HG.out.2.1.grant HS.out.sto.cc HS.out.lb (by have := HJW.out.lenB; omega) (m : Int) 0 1 (by constructor <;> omega) (lin_lit (by omega)) (lin_lit (by omega))).mono ?_
                rintro e wf ⟨V3, rfl, hl3, hb3⟩
                have z3 := hl3.lse.size
                have o3 := hl3.lse.one
                have HS2 := Lib.hid (HS.out.on hb3)
                have HS3 := Lib.hid (HS2.out.setB (HS.out.ansL HGS.out hl3))
                have hts : t = k.TB + k.wB m := by
                  rw [HT.out.2.2.2.2.1, HT.out.2.2.2.2.2.2]
                  show t = TB + wt waits (m + 9)
                  rw [HM9.out, HSS.out.2]
                  exact HTS.out
                have HL := Lib.hid (HJW.out.stepB HO.out.1 HO.out.2 hmN hts HX.out.1 HACV.out.2 HGR.out HBX.out.acc HS3.out)
                clear hts
                clear hl3 hb3 HS HS3
                go_wp2_with (first | ((with_reducible show wpList _ _ _ ((⟨_, Op.store 26 (.tmp 16) _, _, _, _, _⟩ : Oper) :: _) _ _); refine wpList_store_row rfl 26 (.tmp 16) (.tmp 171) rfl gB V3 rfl rfl 26 VB HS2.out.bb (by rw [z3]; exact info_ls) (by rw [z3, zA]) o3 ?_) | fail)
                go_roundw
                case rel => exact ⟨m + 1, by omega, by go_num, HL⟩
                case measure => simp [intOf]; omega
              -- <CUT
          -- CUT>
          have q2 : (n : Int) < (j : Int) := by omega
          have q9 : (n : Int) < 9 := by omega
          have q9' : n < 9 := by omega
          obtain ⟨tv, htv⟩ : ∃ v, tld rows t n = v := ⟨_, rfl⟩
          obtain ⟨gv, hgv⟩ : ∃ v, k.p.gain tv = v := ⟨_, rfl⟩
          obtain ⟨x, hx⟩ : ∃ v, cl n = v := ⟨_, rfl⟩
          obtain ⟨v, hv⟩ : ∃ v, x + gv = v := ⟨_, rfl⟩
          have hcl := HJ.out.clk n (by rw [HT.out.2.1]; exact hlt)
          rw [if_neg (Nat.lt_irrefl n)] at hcl
          have hvc : v = Mt.ck k.p k.told n (t + 1) := by
            rw [← hv, ← hx, hcl, ← hgv, ← htv, ← HT.out.2.2.1]
            rfl
          have hvb := Mt.ck_in HO.out.1 k.told n (t + 1) (by omega)
          rw [← hvc] at hvb
          have hwv : IntKind.i64.wrap (x + gv) = v := by rw [hv, IntKind.wrap_i64]; omega
          have HV : Hid (v = cl n + k.p.gain (k.told t n)) := Lib.hid (by rw [hx, HT.out.2.2.1, htv, hgv]; exact hv.symm)
          have HTV := Lib.hid (And.intro htv hgv)
          have HX := Lib.hid hx
          clear hcl hvc hvb hv htv hgv hx
          go_upto_region 23 with fail
          have HJ := Lib.hid (HJ.out.on (Below.refl _ _).drew)
          have hHeld0 := HJ.out.stm.sto.plan
          refine wp_region_held_drew (S := fun wq => Whole wq g 24 C) (by kernel_rfl) hHeld0 (fun hHeld => ?_)
          generalize wr.drew = wd at *
          refine wpAnyH_take (i := 0) (v := .int .i64 (n : Int)) rfl (by kernel_rfl) (by kernel_rfl) (by kernel_rfl) (fun _ _ _ h => h) (Or.inl ⟨by rfl, (by intro w hSw; (try dsimp only at hSw); go_simp)⟩) (by assumption) ?_
          try simp only [Act.put, List.getElem_toArray, List.getElem_cons_zero, List.getElem_cons_succ, List.setIfInBounds_toArray, List.set_cons_zero, List.set_cons_succ]
          refine wpAnyH_take (i := 1) (v := .int .i64 (n : Int)) rfl (by kernel_rfl) (by kernel_rfl) (by kernel_rfl) (fun _ _ _ h => h) (Or.inl ⟨by rfl, (by intro w hSw; (try dsimp only at hSw); go_simp)⟩) (by assumption) ?_
          try simp only [Act.put, List.getElem_toArray, List.getElem_cons_zero, List.getElem_cons_succ, List.setIfInBounds_toArray, List.set_cons_zero, List.set_cons_succ]
          refine wpAnyH_take (i := 2) (v := .pointer (some ⟨gC, n, none⟩)) rfl (by kernel_rfl) (by kernel_rfl) (by kernel_rfl) (fun _ _ _ h => h) (Or.inl ⟨by rfl, (by intro w hSw; (try dsimp only at hSw); go_simp)⟩) (by assumption) ?_
          try simp only [Act.put, List.getElem_toArray, List.getElem_cons_zero, List.getElem_cons_succ, List.setIfInBounds_toArray, List.set_cons_zero, List.set_cons_succ]
          refine wpAnyH_take (i := 4) (v := .agg C) rfl (by kernel_rfl) (by kernel_rfl) (by kernel_rfl) (fun _ _ _ h => h) (yields_lp (by rfl) _ rfl g rfl C h11 (fun wq hSw => hSw)) (by assumption) ?_
          try simp only [Act.put, List.getElem_toArray, List.getElem_cons_zero, List.getElem_cons_succ, List.setIfInBounds_toArray, List.set_cons_zero, List.set_cons_succ]
          refine wpAnyH_take (i := 5) (v := .slice ga gn gc) rfl (by kernel_rfl) (by kernel_rfl) (by kernel_rfl) (fun _ _ _ h => h) (Or.inl ⟨by rfl, (by intro w hSw; (try dsimp only at hSw); go_simp)⟩) (by assumption) ?_
          try simp only [Act.put, List.getElem_toArray, List.getElem_cons_zero, List.getElem_cons_succ, List.setIfInBounds_toArray, List.set_cons_zero, List.set_cons_succ]
          refine wpAnyH_take (i := 6) (v := .int .i64 (t : Int)) rfl (by kernel_rfl) (by kernel_rfl) (by kernel_rfl) (fun _ _ _ h => h) (Or.inl ⟨by rfl, (by intro w hSw; (try dsimp only at hSw); go_simp)⟩) (by assumption) ?_
          try simp only [Act.put, List.getElem_toArray, List.getElem_cons_zero, List.getElem_cons_succ, List.setIfInBounds_toArray, List.set_cons_zero, List.set_cons_succ]
          refine wpAnyH_take (i := 7) (v := .int .i64 (n : Int)) rfl (by kernel_rfl) (by kernel_rfl) (by kernel_rfl) (fun _ _ _ h => h) (Or.inl ⟨by rfl, (by intro w hSw; (try dsimp only at hSw); go_simp)⟩) (by assumption) ?_
          try simp only [Act.put, List.getElem_toArray, List.getElem_cons_zero, List.getElem_cons_succ, List.setIfInBounds_toArray, List.set_cons_zero, List.set_cons_succ]
          have k3 : wd.cell? ⟨gC, n, none⟩ = some (.int .i64 x) := by rw [← HX.out]; exact HJ.out.stm.sto.cell q9'
          refine wpAnyH_ready (rs := [3, 8]) (by kernel_rfl) (by simp) (AllReadyH.cons rfl (fun K hK => ?_) (AllReadyH.cons rfl (fun K hK => ?_) AllReadyH.nil))
          · skip
            try simp only [List.getElem_toArray, List.getElem_cons_zero, List.getElem_cons_succ]
            go_simp
            refine hK.out _ _ hHeld0 (fun hHeld => ?_)
            clear hK K hHeld
            try simp only [Act.put, List.getElem_toArray, List.getElem_cons_zero, List.getElem_cons_succ, List.setIfInBounds_toArray, List.set_cons_zero, List.set_cons_succ]
            have hHeld := hHeld0
            refine wpAnyH_ready (rs := [8]) (by kernel_rfl) (by simp) (AllReadyH.cons rfl (fun K hK => ?_) AllReadyH.nil)
            try simp only [List.getElem_toArray, List.getElem_cons_zero, List.getElem_cons_succ]
            go_simp
            refine (told_any (HR.out.1.below HJ.out.stm.sto.below (fun _ _ h => h)) t n (by omega) (by omega)).mono ?_
            rintro e wq ⟨rfl, rfl⟩
            rw [HTV.out.1]
            go_wp2_with fail
            refine hK.out _ _ hHeld0 (fun hHeld => ?_)
            clear hK K hHeld
            try simp only [Act.put, List.getElem_toArray, List.getElem_cons_zero, List.getElem_cons_succ, List.setIfInBounds_toArray, List.set_cons_zero, List.set_cons_succ]
            have hHeld := hHeld0
            refine wpAnyH_ready (rs := [9]) (by kernel_rfl) (by simp) (AllReadyH.cons rfl (fun K hK => ?_) AllReadyH.nil)
            try simp only [List.getElem_toArray, List.getElem_cons_zero, List.getElem_cons_succ]
            go_simp
            refine (gain_any HJ.out.stm.sto.cc tv).mono ?_
            rintro e we ⟨rfl, hb⟩
            rw [HTV.out.2]
            have HJ := Lib.hid (HJ.out.on hb)
            have hHeld0 := HJ.out.stm.sto.plan
            clear hb k3 hHeld
            go_wp2_with fail
            refine hK.out _ _ hHeld0 (fun hHeld => ?_)
            clear hK K hHeld
            try simp only [Act.put, List.getElem_toArray, List.getElem_cons_zero, List.getElem_cons_succ, List.setIfInBounds_toArray, List.set_cons_zero, List.set_cons_succ]
            have hHeld := hHeld0
            have k3 : we.cell? ⟨gC, n, none⟩ = some (.int .i64 x) := by rw [← HX.out]; exact HJ.out.stm.sto.cell q9'
            have f3 : we.frozen? ⟨gC, n, none⟩ = false := HJ.out.stm.sto.clock.frozen n
            refine wpAnyH_take (i := 10) (v := .int .i64 v) rfl (by kernel_rfl) (by kernel_rfl) (by kernel_rfl) (fun _ _ _ h => h) (Or.inl ⟨by rfl, (by intro w hSw; (try dsimp only at hSw); go_simp)⟩) (by assumption) ?_
            try simp only [Act.put, List.getElem_toArray, List.getElem_cons_zero, List.getElem_cons_succ, List.setIfInBounds_toArray, List.set_cons_zero, List.set_cons_succ]
            refine wpAnyH_take (i := 11) (v := .pointer (some ⟨gC, n, none⟩)) rfl (by kernel_rfl) (by kernel_rfl) (by kernel_rfl) (fun _ _ _ h => h) (Or.inl ⟨by rfl, (by intro w hSw; (try dsimp only at hSw); go_simp)⟩) (by assumption) ?_
            try simp only [Act.put, List.getElem_toArray, List.getElem_cons_zero, List.getElem_cons_succ, List.setIfInBounds_toArray, List.set_cons_zero, List.set_cons_succ]
            refine wpAnyH_ready (rs := [12]) (by kernel_rfl) (by simp) (AllReadyH.cons rfl (fun K hK => ?_) AllReadyH.nil)
            try simp only [List.getElem_toArray, List.getElem_cons_zero, List.getElem_cons_succ]
            go_simp
            have HJ := Lib.hid (HJ.out.tickN (v := v) (by rw [HT.out.2.1]; exact hlt) HV.out)
            have hHeld1 := HJ.out.stm.sto.plan
            refine hK.out _ _ hHeld1 (fun hHeld => ?_)
            clear hK K hHeld
            try simp only [Act.put, List.getElem_toArray, List.getElem_cons_zero, List.getElem_cons_succ, List.setIfInBounds_toArray, List.set_cons_zero, List.set_cons_succ]
            have hHeld := hHeld1
            refine wpAnyH_done (by kernel_rfl) ?_ _
            clear hHeld hHeld0 hHeld1 k3 f3
            go_wp2
            exact ⟨⟨n + 1, by omega, by go_num, Lib.hid ⟨_, _, _, _, _, _, _, HJ.out⟩⟩, by simp [intOf] <;> omega⟩
          · skip
            try simp only [List.getElem_toArray, List.getElem_cons_zero, List.getElem_cons_succ]
            go_simp
            refine (told_any (HR.out.1.below HJ.out.stm.sto.below (fun _ _ h => h)) t n (by omega) (by omega)).mono ?_
            rintro e wq ⟨rfl, rfl⟩
            rw [HTV.out.1]
            go_wp2_with fail
            refine hK.out _ _ hHeld0 (fun hHeld => ?_)
            clear hK K hHeld
            try simp only [Act.put, List.getElem_toArray, List.getElem_cons_zero, List.getElem_cons_succ, List.setIfInBounds_toArray, List.set_cons_zero, List.set_cons_succ]
            have hHeld := hHeld0
            refine wpAnyH_ready (rs := [3, 9]) (by kernel_rfl) (by simp) (AllReadyH.cons rfl (fun K hK => ?_) (AllReadyH.cons rfl (fun K hK => ?_) AllReadyH.nil))
            · skip
              try simp only [List.getElem_toArray, List.getElem_cons_zero, List.getElem_cons_succ]
              go_simp
              refine hK.out _ _ hHeld0 (fun hHeld => ?_)
              clear hK K hHeld
              try simp only [Act.put, List.getElem_toArray, List.getElem_cons_zero, List.getElem_cons_succ, List.setIfInBounds_toArray, List.set_cons_zero, List.set_cons_succ]
              have hHeld := hHeld0
              refine wpAnyH_ready (rs := [9]) (by kernel_rfl) (by simp) (AllReadyH.cons rfl (fun K hK => ?_) AllReadyH.nil)
              try simp only [List.getElem_toArray, List.getElem_cons_zero, List.getElem_cons_succ]
              go_simp
              refine (gain_any HJ.out.stm.sto.cc tv).mono ?_
              rintro e we ⟨rfl, hb⟩
              rw [HTV.out.2]
              have HJ := Lib.hid (HJ.out.on hb)
              have hHeld0 := HJ.out.stm.sto.plan
              clear hb k3 hHeld
              go_wp2_with fail
              refine hK.out _ _ hHeld0 (fun hHeld => ?_)
              clear hK K hHeld
              try simp only [Act.put, List.getElem_toArray, List.getElem_cons_zero, List.getElem_cons_succ, List.setIfInBounds_toArray, List.set_cons_zero, List.set_cons_succ]
              have hHeld := hHeld0
              have k3 : we.cell? ⟨gC, n, none⟩ = some (.int .i64 x) := by rw [← HX.out]; exact HJ.out.stm.sto.cell q9'
              have f3 : we.frozen? ⟨gC, n, none⟩ = false := HJ.out.stm.sto.clock.frozen n
              refine wpAnyH_take (i := 10) (v := .int .i64 v) rfl (by kernel_rfl) (by kernel_rfl) (by kernel_rfl) (fun _ _ _ h => h) (Or.inl ⟨by rfl, (by intro w hSw; (try dsimp only at hSw); go_simp)⟩) (by assumption) ?_
              try simp only [Act.put, List.getElem_toArray, List.getElem_cons_zero, List.getElem_cons_succ, List.setIfInBounds_toArray, List.set_cons_zero, List.set_cons_succ]
              refine wpAnyH_take (i := 11) (v := .pointer (some ⟨gC, n, none⟩)) rfl (by kernel_rfl) (by kernel_rfl) (by kernel_rfl) (fun _ _ _ h => h) (Or.inl ⟨by rfl, (by intro w hSw; (try dsimp only at hSw); go_simp)⟩) (by assumption) ?_
              try simp only [Act.put, List.getElem_toArray, List.getElem_cons_zero, List.getElem_cons_succ, List.setIfInBounds_toArray, List.set_cons_zero, List.set_cons_succ]
              refine wpAnyH_ready (rs := [12]) (by kernel_rfl) (by simp) (AllReadyH.cons rfl (fun K hK => ?_) AllReadyH.nil)
              try simp only [List.getElem_toArray, List.getElem_cons_zero, List.getElem_cons_succ]
              go_simp
              have HJ := Lib.hid (HJ.out.tickN (v := v) (by rw [HT.out.2.1]; exact hlt) HV.out)
              have hHeld1 := HJ.out.stm.sto.plan
              refine hK.out _ _ hHeld1 (fun hHeld => ?_)
              clear hK K hHeld
              try simp only [Act.put, List.getElem_toArray, List.getElem_cons_zero, List.getElem_cons_succ, List.setIfInBounds_toArray, List.set_cons_zero, List.set_cons_succ]
              have hHeld := hHeld1
              refine wpAnyH_done (by kernel_rfl) ?_ _
              clear hHeld hHeld0 hHeld1 k3 f3
              go_wp2
              exact ⟨⟨n + 1, by omega, by go_num, Lib.hid ⟨_, _, _, _, _, _, _, HJ.out⟩⟩, by simp [intOf] <;> omega⟩
            · skip
              try simp only [List.getElem_toArray, List.getElem_cons_zero, List.getElem_cons_succ]
              go_simp
              refine (gain_any HJ.out.stm.sto.cc tv).mono ?_
              rintro e we ⟨rfl, hb⟩
              rw [HTV.out.2]
              have HJ := Lib.hid (HJ.out.on hb)
              have hHeld0 := HJ.out.stm.sto.plan
              clear hb k3 hHeld
              go_wp2_with fail
              refine hK.out _ _ hHeld0 (fun hHeld => ?_)
              clear hK K hHeld
              try simp only [Act.put, List.getElem_toArray, List.getElem_cons_zero, List.getElem_cons_succ, List.setIfInBounds_toArray, List.set_cons_zero, List.set_cons_succ]
              have hHeld := hHeld0
              have k3 : we.cell? ⟨gC, n, none⟩ = some (.int .i64 x) := by rw [← HX.out]; exact HJ.out.stm.sto.cell q9'
              refine wpAnyH_ready (rs := [3]) (by kernel_rfl) (by simp) (AllReadyH.cons rfl (fun K hK => ?_) AllReadyH.nil)
              try simp only [List.getElem_toArray, List.getElem_cons_zero, List.getElem_cons_succ]
              go_simp
              refine hK.out _ _ hHeld0 (fun hHeld => ?_)
              clear hK K hHeld
              try simp only [Act.put, List.getElem_toArray, List.getElem_cons_zero, List.getElem_cons_succ, List.setIfInBounds_toArray, List.set_cons_zero, List.set_cons_succ]
              have hHeld := hHeld0
              have k3 : we.cell? ⟨gC, n, none⟩ = some (.int .i64 x) := by rw [← HX.out]; exact HJ.out.stm.sto.cell q9'
              have f3 : we.frozen? ⟨gC, n, none⟩ = false := HJ.out.stm.sto.clock.frozen n
              refine wpAnyH_take (i := 10) (v := .int .i64 v) rfl (by kernel_rfl) (by kernel_rfl) (by kernel_rfl) (fun _ _ _ h => h) (Or.inl ⟨by rfl, (by intro w hSw; (try dsimp only at hSw); go_simp)⟩) (by assumption) ?_
              try simp only [Act.put, List.getElem_toArray, List.getElem_cons_zero, List.getElem_cons_succ, List.setIfInBounds_toArray, List.set_cons_zero, List.set_cons_succ]
              refine wpAnyH_take (i := 11) (v := .pointer (some ⟨gC, n, none⟩)) rfl (by kernel_rfl) (by kernel_rfl) (by kernel_rfl) (fun _ _ _ h => h) (Or.inl ⟨by rfl, (by intro w hSw; (try dsimp only at hSw); go_simp)⟩) (by assumption) ?_
              try simp only [Act.put, List.getElem_toArray, List.getElem_cons_zero, List.getElem_cons_succ, List.setIfInBounds_toArray, List.set_cons_zero, List.set_cons_succ]
              refine wpAnyH_ready (rs := [12]) (by kernel_rfl) (by simp) (AllReadyH.cons rfl (fun K hK => ?_) AllReadyH.nil)
              try simp only [List.getElem_toArray, List.getElem_cons_zero, List.getElem_cons_succ]
              go_simp
              have HJ := Lib.hid (HJ.out.tickN (v := v) (by rw [HT.out.2.1]; exact hlt) HV.out)
              have hHeld1 := HJ.out.stm.sto.plan
              refine hK.out _ _ hHeld1 (fun hHeld => ?_)
              clear hK K hHeld
              try simp only [Act.put, List.getElem_toArray, List.getElem_cons_zero, List.getElem_cons_succ, List.setIfInBounds_toArray, List.set_cons_zero, List.set_cons_succ]
              have hHeld := hHeld1
              refine wpAnyH_done (by kernel_rfl) ?_ _
              clear hHeld hHeld0 hHeld1 k3 f3
              go_wp2
              exact ⟨⟨n + 1, by omega, by go_num, Lib.hid ⟨_, _, _, _, _, _, _, HJ.out⟩⟩, by simp [intOf] <;> omega⟩
          -- <CUT
    -- CUT>
    have q1 : (j : Int) < (N : Int) := by omega
    go_wp2_with (first | ((with_reducible show wpList _ _ _ ((⟨some 54, Op.load 24 (.tmp 5), _, _, _, _⟩ : Oper) :: _) _ _); refine wpList_load_rowG (by rfl) _ (.tmp 5) rfl g rfl 24 C (0, 0) _ HJ.out.plan Try.underlying24 rfl (by rw [h11]; exact info11) ?_) | fail)
    refine (HG.out.1.new HJ.out.cc 0 (by constructor <;> decide)).mono ?_
    rintro e w7 ⟨V, rfl, ha, hb⟩
    have HJ7 := Lib.hid (HJ.out.on hb)
    have HV := Lib.hid (And.intro (ha.weak (S' := fun b => b ∉ [g, gC, gR]) (fun b _ hb hx => by
      have h1 := HJ.out.plan.lt
      have h2 := HJ.out.clock.lt
      have h3 := HJ.out.row.lt
      simp at hx
      omega)) (And.intro ha.acc.size ha.acc.one))
    clear ha hb HJ c0
    have z7 : (Try.prog.info? 45).map (·.size) = some V.toList.length := by rw [Array.length_toList, HV.out.2.1]; exact info_acc
    have hlen := accRow_len HJ7.out.vs
    go_upto_region 12 with (first | ((with_reducible show wpList _ _ _ ((⟨_, Op.store 45 (.tmp 56) _, _, _, _, _⟩ : Oper) :: _) _ _); refine wpList_store_part rfl _ (.tmp 56) (.tmp 55) rfl gR (j * 2) V.toList rfl rfl HJ7.out.row z7 (fun v hv => (Array.all_eq_true_iff_forall_mem.1 HV.out.2.2) v (by simpa using hv)) (by rw [Array.length_toList, HV.out.2.1, hlen]; omega) ?_) | fail)
    have HJ8 := Lib.hid (HJ7.out.setR hlt HV.out.1)
    clear HJ7 HV z7 hlen
    generalize w7.setRow gR (splice (accRow VS N) (j * 2) V.toList).toArray = w8 at *
    have hpl : Pl w8 g C p := ⟨HJ8.out.plan, HJ8.out.cc.weak (fun _ _ _ => trivial)⟩
    have c4 := hpl.cells.2.2
    rw [HP.out.2.2] at c4
    have k8 := HJ8.out.cell (n := j) (by omega)
    have f8 : w8.frozen? ⟨gC, j, none⟩ = false := HJ8.out.clock.frozen j
    have HJ9 : Hid (∃ VS ac cl, Sto g w (w8.setCell ⟨gC, j, none⟩ (.int .i64 gr)) [g, gC, gR] g gC gR C p cl N VS ac ∧ ∀ i, i < j + 1 → ac i = Gt.new p 0 ∧ cl i = gr) := Lib.hid ⟨_, _, _, HJ8.out.setC j gr, fun i hi => by
      by_cases e : i = j
      · subst e
        exact ⟨if_pos rfl, Gt.upd_same _ _ _⟩
      · rw [Gt.upd_ne _ _ e, if_neg e]
        exact HI.out i (by omega)⟩
    clear hpl HJ8
    go_wp2
    exact ⟨⟨j + 1, by omega, by go_num, HJ9⟩, by simp [intOf] <;> omega⟩
    -- <CUT
end Go.Proofs.Ytegdopbiiddamaa
