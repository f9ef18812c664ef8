/-
  The walk of LatticeMany.
-/
import Derived.Test.YtdfmfjahnnifnaaLg
namespace La
open Ft
theorem nth_few (k : Nat) : ∀ f ∈ firsts k, f.man.ds.length ≤ 100 := by
  intro f hf
  obtain ⟨j, _, rfl⟩ := List.mem_map.1 hf
  exact Nat.zero_le _
theorem firsts_good : ∀ i : Nat, i ≤ 999 → Good 9 (firsts (min i 200)) := by
  intro i
  induction i with
  | zero => exact fun _ => good_nil 9
  | succ i ih =>
    intro h
    have h1 := add_good (ih (by omega)) (nth i)
    rw [add_nth (by omega)] at h1
    exact h1
end La
namespace Go.Proofs.Ytdfmfjahnnifnaa
set_option maxRecDepth 20000
set_option linter.unusedSimpArgs false
set_option linter.unusedVariables false
open Go.RowKit Go.Great
theorem ol_add (L : Lat) {w : World} {D : Nat → Prop} {a : Option Addr} {n c k : Nat} {l : List Ft.Fact} {N : Int} {x : Fm} {X : List Value} (h : OL w a n c l) (hg : Gd N l k) (hk : k ≤ 200) (hx : Rw w D x) (hf : x.1.man.ds.length ≤ 100) (hX : fc x = X) :
    Calls Try.prog 14 #[.int .i64 N, .slice a n c, .agg X.toArray] w fun e w' => ∃ a' n' c', e = .returned (.tuple #[.slice a' n' c', .int .i64 (La.add N l x.1).2]) ∧ OL w' a' n' c' (La.add N l x.1).1 ∧ Below w.heap.size w w' := by
  have hn := h.len
  have hl := hg.len
  obtain ⟨R, h1, h2⟩ := h
  refine (lat_add L N h1.fts h1.le (by omega) h2 hg.good hg.few hx hf hX rfl).mono ?_
  rintro e w' ⟨a', n', c', R', rfl, h3, h4, h5⟩
  exact ⟨a', n', c', rfl, ⟨R', h3.mono (Nat.zero_le _), h4⟩, h5⟩
set_option maxHeartbeats 4000000 in
theorem many_walk (L : Lat) {w : World} {D : Nat → Prop} {x : Fm} (hx : Rw w D x) (M : Int) (hM : 0 ≤ M ∧ M < 65536) :
    Calls Try.prog 9 #[.int .u16 M, .agg (fc x).toArray] w fun e w' => e = .returned (.bool true) ∧ Below w.heap.size w w' := by
  have hb1 := below_alloc w (.cells (fc x).toArray 30)
  have hfb : FB (w.alloc (.cells (fc x).toArray 30)) w.heap.size (fc x).toArray x.2 x.1 := ⟨Whole.new _ _ _, rfl, (hx.1.old.below hb1 (fun _ _ h => h)).old, hx.2.1, hx.2.2⟩
  have HB1 := Lib.hid hb1
  have HF1 := Lib.hid (And.intro hfb (hx.old.below hb1 (fun _ _ h => h)).old)
  clear hx hb1 hfb
  obtain ⟨X, hX⟩ : ∃ X, fc x = X := ⟨_, rfl⟩
  rw [hX] at HF1 HB1 ⊢
  have HXE := Lib.hid hX
  clear hX
  generalize hw1 : w.alloc (.cells X.toArray 30) = w1 at *
  obtain ⟨hM0, hM1⟩ := hM
  obtain ⟨m, rfl⟩ := Int.eq_ofNat_of_zero_le hM0
  obtain ⟨n, hn⟩ : ∃ n, 150 + m % 60 = n := ⟨_, rfl⟩
  have hn2 : 150 ≤ n ∧ n < 210 := by omega
  have HNE : Hid (150 + m % 60 = n) := Lib.hid hn
  clear hn hM0
  go_enter Try.func9, Try.ntmps9
  go_wp2_with fail
  refine (awake_any L _).mono ?_
  rintro e w2 ⟨rfl, hb2⟩
  have HF2 := Lib.hid (And.intro (HF1.out.1.below hb2) (HF1.out.2.below hb2 (fun _ _ h => h)).old)
  have HB2 := Lib.hid (HB1.out.trans (hb2.mono HB1.out.size))
  clear hb2 HF1 HB1 hw1
  go_wp2_with (first | ((with_reducible show wpList _ _ _ ((⟨_, Op.load 30 (.tmp 3), _, _, _, _⟩ : Oper) :: _) _ _); refine fb_load HF2.out.1 (by rfl) (.tmp 3) rfl rfl ?_) | fail)
  refine (few_any HF2.out.1.val).mono ?_
  rintro e w3 ⟨rfl, hb3⟩
  have HF3 := Lib.hid (And.intro (HF2.out.1.below hb3) (HF2.out.2.below hb3 (fun _ _ h => h)).old)
  have HB3 := Lib.hid (HB2.out.trans (hb3.mono HB2.out.size))
  clear hb3 HF2 HB2
  by_cases hfew : x.1.man.ds.length ≤ 100
  case neg =>
    rw [decide_eq_false hfew]
    clear hfew
    go_wp2
    go_ret
    exact ⟨rfl, HB3.out⟩
  rw [decide_eq_true hfew]
  have HFW := Lib.hid hfew
  clear hfew
  go_upto_region 8 with fail
  rw [show (150 + (m : Int) % 60) = (n : Int) by have := HNE.out; omega]
  go_wp2
  go_loopw [6, 8, 9, 10] (fun v i _ _ wr => ∃ (j k c2 : Nat) (a2 : Option Addr), j ≤ n ∧ v = .slice a2 k c2 ∧ i = .int .i64 (j : Int) ∧ Hid (k = min j 200) ∧ Hid (OL wr a2 k c2 (La.firsts k) ∧ FB wr w.heap.size X.toArray x.2 x.1 ∧ Rw wr (fun b => b < wr.heap.size) x ∧ Below w.heap.size w wr)) (fun _ i _ _ _ => n - (intOf i).toNat)
  case atStart => exact ⟨0, 0, 0, none, Nat.zero_le _, rfl, rfl, Lib.hid rfl, Lib.hid ⟨⟨[], Own.nil _ _, rfl⟩, HF3.out.1, HF3.out.2, HB3.out⟩⟩
  case round =>
    clear HF3 HB3
    obtain ⟨j, k, c2, a2, hj, rfl, rfl, HKE, HK⟩ := hrel
    by_cases hlt : j < n
    · have q : (j : Int) < (n : Int) := by omega
      have hj210 : j < 210 := by omega
      go_wp2_with (first | ((with_reducible show wpList _ _ _ ((⟨_, Op.build 30 _, _, _, _, _⟩ : Oper) :: _) _ _); refine wpList_built rfl _ rfl _ rfl _ (built_f _ _ _) ?_) | fail)
      have HX9 : fc (La.nth j, zm.toList) = fcs 2 (1600 + 16 * ((j : Int) / 9)) ((j : Int) % 9) zm.toList := by
        show fcs 2 (1600 + 16 * ((j / 9 : Nat) : Int)) ((j % 9 : Nat) : Int) zm.toList = _
        rw [Int.natCast_ediv, Int.natCast_emod]
        rfl
      have HAN : La.add 9 (La.firsts k) ((La.nth j, zm.toList) : Fm).1 = (La.firsts (min (j + 1) 200), if j < 200 then 0 else 110) := by
        rw [HKE.out]
        exact La.add_nth (by omega)
      refine (ol_add L (N := 9) (x := (La.nth j, zm.toList)) (D := fun _ => True) (k := 200) HK.out.1 ⟨by rw [HKE.out]; exact La.firsts_good j (by omega), La.nth_few k, by rw [La.firsts_len, HKE.out]; omega⟩ (Nat.le_refl _) ⟨zm_list wr _, rfl, by unfold In64 La.nth; refine ⟨by simp only; omega, by simp only; omega, by simp only; omega⟩⟩ (Nat.zero_le _) HX9).mono ?_
      rintro e w4 ⟨a4, n4, c4, rfl, ho4, hb4⟩
      obtain ⟨E, hE⟩ : ∃ E : Int, (if j < 200 then 0 else 110) = E := ⟨_, rfl⟩
      rw [hE] at HAN
      rw [HAN] at ho4 ⊢
      dsimp only at ho4 ⊢
      have HN4 : Hid (n4 = min (j + 1) 200) := Lib.hid (by rw [ho4.len, La.firsts_len])
      have HK4 : Hid (OL w4 a4 n4 c4 (La.firsts n4) ∧ FB w4 w.heap.size X.toArray x.2 x.1 ∧ Rw w4 (fun b => b < w4.heap.size) x ∧ Below w.heap.size w w4) := Lib.hid ⟨by rw [← HN4.out] at ho4; exact ho4, HK.out.2.1.below hb4, (HK.out.2.2.1.below hb4 (fun _ _ h => h)).old, HK.out.2.2.2.trans (hb4.mono HK.out.2.2.2.size)⟩
      clear ho4 hb4 HAN HX9 HK HKE
      by_cases hj2 : j < 200
      · have q2 : (j : Int) < 200 := by omega
        have hE0 : E = 0 := by rw [← hE, if_pos hj2]
        subst hE0
        clear hE
        have d1 : (decide ((j : Int) < 200)) = true := decide_eq_true q2
        have d2 : (decide ((200 : Int) ≤ (j : Int))) = false := decide_eq_false (by omega)
        go_wp2_with fail
        exact ⟨⟨j + 1, n4, c4, a4, by omega, rfl, by go_num, HN4, HK4⟩, by simp [intOf]; omega⟩
      · have q2 : ¬ (j : Int) < 200 := by omega
        have hE0 : E = 110 := by rw [← hE, if_neg hj2]
        subst hE0
        clear hE
        have d1 : (decide ((j : Int) < 200)) = false := decide_eq_false q2
        have d2 : (decide ((200 : Int) ≤ (j : Int))) = true := decide_eq_true (by omega)
        go_wp2_with fail
        exact ⟨⟨j + 1, n4, c4, a4, by omega, rfl, by go_num, HN4, HK4⟩, by simp [intOf]; omega⟩
    · have q : ¬ ((j : Int) < (n : Int)) := by omega
      have hk : k = min n 200 := by rw [HKE.out]; omega
      have hk2 : k ≤ 200 := by omega
      have HG : Hid (Gd 9 (La.firsts k) 200) := Lib.hid ⟨by rw [HKE.out]; exact La.firsts_good j (by omega), La.nth_few k, by rw [La.firsts_len]; exact hk2⟩
      have HLN := Lib.hid (La.firsts_len k)
      have HKN := Lib.hid hk
      clear hk
      by_cases hok : x.1.ok 9
      case neg =>
        have HA : Hid ((La.add 9 (La.firsts k) x.1).2 = 100) := Lib.hid (by unfold La.add; rw [if_pos hok])
        have HC : Hid (x.1.chk 9 = 100) := Lib.hid (Ft.chk_no hok)
        clear hok
        go_wp2_with (first | ((with_reducible show wpList _ _ _ ((⟨_, Op.load 30 (.tmp 3), _, _, _, _⟩ : Oper) :: _) _ _); refine fb_load HK.out.2.1 (by rfl) (.tmp 3) rfl rfl ?_) | fail)
        refine (ol_add L (N := 9) HK.out.1 HG.out (Nat.le_refl _) HK.out.2.2.1 HFW.out HXE.out).mono ?_
        rintro e w4 ⟨a4, n4, c4, rfl, ho4, hb4⟩
        rw [HA.out]
        have hn4 : n4 ≤ 200 := by
          have h1 := ho4.len
          have h2 := (La.add_len 9 (La.firsts k) x.1).2.1 (by rw [HLN.out]; exact hk2)
          omega
        have HK4 : Hid (OL w4 a2 k c2 (La.firsts k) ∧ FB w4 w.heap.size X.toArray x.2 x.1 ∧ Below w.heap.size w w4) := Lib.hid ⟨HK.out.1.below hb4, HK.out.2.1.below hb4, HK.out.2.2.2.trans (hb4.mono HK.out.2.2.2.size)⟩
        have k0 := HK4.out.2.1.c0
        have k1 := HK4.out.2.1.c1
        have k2 := HK4.out.2.1.c2
        clear ho4 hb4 HK
        go_wp2_with fail
        refine (ol_has L HK4.out.1 HG.out.good HG.out.len _ _ _).mono ?_
        rintro e w5 ⟨rfl, hb5⟩
        have HK5 : Hid (FB w5 w.heap.size X.toArray x.2 x.1 ∧ Below w.heap.size w w5) := Lib.hid ⟨HK4.out.2.1.below hb5, HK4.out.2.2.trans (hb5.mono HK4.out.2.2.size)⟩
        clear hb5 HK4 k0 k1 k2
        generalize decide (La.has (La.firsts k) x.1.kind x.1.epoch x.1.node) = kn at *
        go_wp2_with (first | ((with_reducible show wpList _ _ _ ((⟨_, Op.load 30 (.tmp 3), _, _, _, _⟩ : Oper) :: _) _ _); refine fb_load HK5.out.1 (by rfl) (.tmp 3) rfl rfl ?_) | fail)
        refine (fcheck_any HK5.out.1.val 9).mono ?_
        rintro e w6 ⟨rfl, hb6⟩
        have HB6 := Lib.hid (HK5.out.2.trans (hb6.mono HK5.out.2.size))
        clear hb6 HK5
        rw [HC.out]
        have d3 : (decide ((n4 : Int) ≤ 200)) = true := decide_eq_true (by omega)
        have d4 : ((k : Int) == min (n : Int) 200) = true := by have := HKN.out; simp; omega
        go_wp2_with fail
        go_ret
        exact ⟨rfl, HB6.out⟩
      have HC : Hid (x.1.chk 9 = 0) := Lib.hid (Ft.chk_ok hok)
      by_cases hkn : La.has (La.firsts k) x.1.kind x.1.epoch x.1.node
      case pos =>
        have HA : Hid ((La.add 9 (La.firsts k) x.1).2 = 0) := Lib.hid (by unfold La.add; rw [if_neg (fun h => h hok), if_pos hkn])
        have HH := Lib.hid (decide_eq_true hkn)
        clear hok hkn
        go_wp2_with (first | ((with_reducible show wpList _ _ _ ((⟨_, Op.load 30 (.tmp 3), _, _, _, _⟩ : Oper) :: _) _ _); refine fb_load HK.out.2.1 (by rfl) (.tmp 3) rfl rfl ?_) | fail)
        refine (ol_add L (N := 9) HK.out.1 HG.out (Nat.le_refl _) HK.out.2.2.1 HFW.out HXE.out).mono ?_
        rintro e w4 ⟨a4, n4, c4, rfl, ho4, hb4⟩
        rw [HA.out]
        have hn4 : n4 ≤ 200 := by
          have h1 := ho4.len
          have h2 := (La.add_len 9 (La.firsts k) x.1).2.1 (by rw [HLN.out]; exact hk2)
          omega
        have HK4 : Hid (OL w4 a2 k c2 (La.firsts k) ∧ FB w4 w.heap.size X.toArray x.2 x.1 ∧ Below w.heap.size w w4) := Lib.hid ⟨HK.out.1.below hb4, HK.out.2.1.below hb4, HK.out.2.2.2.trans (hb4.mono HK.out.2.2.2.size)⟩
        have k0 := HK4.out.2.1.c0
        have k1 := HK4.out.2.1.c1
        have k2 := HK4.out.2.1.c2
        clear ho4 hb4 HK
        go_wp2_with fail
        refine (ol_has L HK4.out.1 HG.out.good HG.out.len _ _ _).mono ?_
        rintro e w5 ⟨rfl, hb5⟩
        have HK5 : Hid (FB w5 w.heap.size X.toArray x.2 x.1 ∧ Below w.heap.size w w5) := Lib.hid ⟨HK4.out.2.1.below hb5, HK4.out.2.2.trans (hb5.mono HK4.out.2.2.size)⟩
        clear hb5 HK4 k0 k1 k2
        rw [HH.out]
        go_wp2_with (first | ((with_reducible show wpList _ _ _ ((⟨_, Op.load 30 (.tmp 3), _, _, _, _⟩ : Oper) :: _) _ _); refine fb_load HK5.out.1 (by rfl) (.tmp 3) rfl rfl ?_) | fail)
        refine (fcheck_any HK5.out.1.val 9).mono ?_
        rintro e w6 ⟨rfl, hb6⟩
        have HB6 := Lib.hid (HK5.out.2.trans (hb6.mono HK5.out.2.size))
        clear hb6 HK5
        rw [HC.out]
        have d3 : (decide ((n4 : Int) ≤ 200)) = true := decide_eq_true (by omega)
        have d4 : ((k : Int) == min (n : Int) 200) = true := by have := HKN.out; simp; omega
        go_wp2_with fail
        go_ret
        exact ⟨rfl, HB6.out⟩
      have HH := Lib.hid (decide_eq_false hkn)
      by_cases h200 : k < 200
      · have HA : Hid ((La.add 9 (La.firsts k) x.1).2 = 0) := Lib.hid (by unfold La.add; rw [if_neg (fun h => h hok), if_neg hkn, if_neg (by rw [La.firsts_len]; omega)])
        have d5 : (decide ((k : Int) < 200)) = true := decide_eq_true (by omega)
        clear hok hkn
        go_wp2_with (first | ((with_reducible show wpList _ _ _ ((⟨_, Op.load 30 (.tmp 3), _, _, _, _⟩ : Oper) :: _) _ _); refine fb_load HK.out.2.1 (by rfl) (.tmp 3) rfl rfl ?_) | fail)
        refine (ol_add L (N := 9) HK.out.1 HG.out (Nat.le_refl _) HK.out.2.2.1 HFW.out HXE.out).mono ?_
        rintro e w4 ⟨a4, n4, c4, rfl, ho4, hb4⟩
        rw [HA.out]
        have hn4 : n4 ≤ 200 := by
          have h1 := ho4.len
          have h2 := (La.add_len 9 (La.firsts k) x.1).2.1 (by rw [HLN.out]; exact hk2)
          omega
        have HK4 : Hid (OL w4 a2 k c2 (La.firsts k) ∧ FB w4 w.heap.size X.toArray x.2 x.1 ∧ Below w.heap.size w w4) := Lib.hid ⟨HK.out.1.below hb4, HK.out.2.1.below hb4, HK.out.2.2.2.trans (hb4.mono HK.out.2.2.2.size)⟩
        have k0 := HK4.out.2.1.c0
        have k1 := HK4.out.2.1.c1
        have k2 := HK4.out.2.1.c2
        clear ho4 hb4 HK
        go_wp2_with fail
        refine (ol_has L HK4.out.1 HG.out.good HG.out.len _ _ _).mono ?_
        rintro e w5 ⟨rfl, hb5⟩
        have HK5 : Hid (FB w5 w.heap.size X.toArray x.2 x.1 ∧ Below w.heap.size w w5) := Lib.hid ⟨HK4.out.2.1.below hb5, HK4.out.2.2.trans (hb5.mono HK4.out.2.2.size)⟩
        clear hb5 HK4 k0 k1 k2
        rw [HH.out]
        go_wp2_with (first | ((with_reducible show wpList _ _ _ ((⟨_, Op.load 30 (.tmp 3), _, _, _, _⟩ : Oper) :: _) _ _); refine fb_load HK5.out.1 (by rfl) (.tmp 3) rfl rfl ?_) | fail)
        refine (fcheck_any HK5.out.1.val 9).mono ?_
        rintro e w6 ⟨rfl, hb6⟩
        have HB6 := Lib.hid (HK5.out.2.trans (hb6.mono HK5.out.2.size))
        clear hb6 HK5
        rw [HC.out]
        have d3 : (decide ((n4 : Int) ≤ 200)) = true := decide_eq_true (by omega)
        have d4 : ((k : Int) == min (n : Int) 200) = true := by have := HKN.out; simp; omega
        go_wp2_with fail
        go_ret
        exact ⟨rfl, HB6.out⟩
      · have HA : Hid ((La.add 9 (La.firsts k) x.1).2 = 110) := Lib.hid (by unfold La.add; rw [if_neg (fun h => h hok), if_neg hkn, if_pos (by rw [La.firsts_len]; omega)])
        have d5 : (decide ((k : Int) < 200)) = false := decide_eq_false (by omega)
        clear hok hkn
        go_wp2_with (first | ((with_reducible show wpList _ _ _ ((⟨_, Op.load 30 (.tmp 3), _, _, _, _⟩ : Oper) :: _) _ _); refine fb_load HK.out.2.1 (by rfl) (.tmp 3) rfl rfl ?_) | fail)
        refine (ol_add L (N := 9) HK.out.1 HG.out (Nat.le_refl _) HK.out.2.2.1 HFW.out HXE.out).mono ?_
        rintro e w4 ⟨a4, n4, c4, rfl, ho4, hb4⟩
        rw [HA.out]
        have hn4 : n4 ≤ 200 := by
          have h1 := ho4.len
          have h2 := (La.add_len 9 (La.firsts k) x.1).2.1 (by rw [HLN.out]; exact hk2)
          omega
        have HK4 : Hid (OL w4 a2 k c2 (La.firsts k) ∧ FB w4 w.heap.size X.toArray x.2 x.1 ∧ Below w.heap.size w w4) := Lib.hid ⟨HK.out.1.below hb4, HK.out.2.1.below hb4, HK.out.2.2.2.trans (hb4.mono HK.out.2.2.2.size)⟩
        have k0 := HK4.out.2.1.c0
        have k1 := HK4.out.2.1.c1
        have k2 := HK4.out.2.1.c2
        clear ho4 hb4 HK
        go_wp2_with fail
        refine (ol_has L HK4.out.1 HG.out.good HG.out.len _ _ _).mono ?_
        rintro e w5 ⟨rfl, hb5⟩
        have HK5 : Hid (FB w5 w.heap.size X.toArray x.2 x.1 ∧ Below w.heap.size w w5) := Lib.hid ⟨HK4.out.2.1.below hb5, HK4.out.2.2.trans (hb5.mono HK4.out.2.2.size)⟩
        clear hb5 HK4 k0 k1 k2
        rw [HH.out]
        go_wp2_with (first | ((with_reducible show wpList _ _ _ ((⟨_, Op.load 30 (.tmp 3), _, _, _, _⟩ : Oper) :: _) _ _); refine fb_load HK5.out.1 (by rfl) (.tmp 3) rfl rfl ?_) | fail)
        refine (fcheck_any HK5.out.1.val 9).mono ?_
        rintro e w6 ⟨rfl, hb6⟩
        have HB6 := Lib.hid (HK5.out.2.trans (hb6.mono HK5.out.2.size))
        clear hb6 HK5
        rw [HC.out]
        have d3 : (decide ((n4 : Int) ≤ 200)) = true := decide_eq_true (by omega)
        have d4 : ((k : Int) == min (n : Int) 200) = true := by have := HKN.out; simp; omega
        go_wp2_with fail
        go_ret
        exact ⟨rfl, HB6.out⟩
end Go.Proofs.Ytdfmfjahnnifnaa
