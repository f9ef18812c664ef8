/-
  The walk of JournalLives.
-/
import Derived.Test.YtfecobkpdmjaeaaQq
namespace Go.Proofs.Ytfecobkpdmjaeaa
open Go.RowKit
set_option linter.unusedVariables false
set_option linter.unusedSimpArgs false
set_option maxRecDepth 20000
theorem bsOf_flush {A : Dm.A} {n : Nat} (h : Dm.Ok A n) (fr m : Nat) : bsOf (Dm.flush A) fr m = bsOf A fr m := by
  unfold bsOf
  congr 1
  funext i
  exact (Dm.now_get h).2.2 (fr + i)
theorem Clean.flush {A : Dm.A} {n fr m u top : Nat} {L : List (List Int)} (h : Clean A fr m L u top) (ho : Dm.Ok A n) : Clean (Dm.flush A) fr m L u top := by
  refine ⟨h.le, ?_⟩
  rw [bsOf_flush ho]
  exact h.is
theorem bk_force {w W : World} {B j p bb mb fr m N : Nat} {v vW : Value} {L M : List (List Int)} {u top life : Nat} {A : Dm.A} (h : Bk w W B j p bb mb fr m N v vW L M u top life A) (hP : Pl W B j p bb mb) :
    Calls Try.prog 17 #[.pointer (some ⟨j, 0, none⟩)] w fun e w' => e = .returned (.int .i64 0) ∧ Bk w' W B j p bb mb fr m N v vW L M u top life (Dm.flush A) ∧ w.heap.size ≤ w'.heap.size := by
  refine (jForce_up h.jr h.dk hP.bB h.up).mono ?_
  rintro e w' ⟨rfl, hj, hd, ho⟩
  have hS : ∀ x ∈ [p, bb, mb, j], W.heap.size ≤ x := by
    have h1 := hP.lp; have h2 := hP.lbb; have h3 := hP.lmb; have h4 := hP.lj
    intro x hx
    simp at hx
    omega
  have ho' : Only [p, bb, mb, j] w w' := ⟨ho.os, ho.tape, ho.output, ho.size, fun i hi hn => ho.block i hi (by simp at hn ⊢; exact ⟨hn.1, hn.2.1, hn.2.2.1⟩)⟩
  exact ⟨rfl, ⟨hj, hd, h.up, h.clean.flush h.dk.ok, want_only h.want h.jr h.dk ho' (fun b hb hm => by have := hS b hm; have hb' : b < W.heap.size := hb; omega), ho'.aft h.below hS, h.short, h.sep⟩, ho.size⟩
/-- A disk whose journal's other blocks are 0. -/
structure Dc (w W : World) (p bb mb fr m N : Nat) (L : List (List Int)) (u top : Nat) (A : Dm.A) : Prop where
  dk : Dk w p bb mb A N
  up : A.down = false
  clean : Clean A fr m L u top
  below : Below W.heap.size W w
  short : ∀ l ∈ L, l.length ≤ 300
set_option maxHeartbeats 8000000 in
set_option maxRecDepth 100000 in
theorem lives_walk (pa : Option Addr) (pl pc : Nat) (ps : List (List Int)) (w : World) (hps : Txs w (· < w.heap.size) pa pl ps) :
    Calls Try.prog 8 #[.slice pa pl pc] w fun e w' => e = .returned (.bool true) ∧ Below w.heap.size w w' := by
  have hpm := hps.1
  unfold maxLen at hpm
  have HL0 := Lib.hid hps
  clear hps
  go_enter Try.func8, Try.ntmps8
  go_wp2_with fail
  refine awake_any.mono ?_
  rintro e w1 ⟨rfl, hb1⟩
  have HB1 := Lib.hid hb1
  clear hb1
  go_wp2_with fail
  refine (new_ok (n := 100) (by omega)).mono ?_
  rintro e w2 ⟨p, bb, mb, rfl, hd2, hp, hbb, hmb, hb2⟩
  have hs1 := HB1.out.size
  have HP : Hid (w.heap.size ≤ p ∧ w.heap.size ≤ bb ∧ w.heap.size ≤ mb ∧ w.heap.size ≤ w2.heap.size ∧ bb < w2.heap.size) := Lib.hid ⟨by omega, by omega, by omega, by have := hb2.size; omega, hd2.bytes.lt⟩
  have H2 : Hid (∃ L u A, Dc w2 w p bb mb 0 100 100 L u 0 A ∧ u ≤ 7 * 0 ∧ L.length ≤ 0 ∧ u = 0 ∧ bb < w2.heap.size) := Lib.hid ⟨[], 0, fresh 100, ⟨hd2, rfl, clean_fresh 100 0 100 (by omega), HB1.out.trans (hb2.mono hs1), fun l hl => by cases hl⟩, by omega, by simp, rfl, hd2.bytes.lt⟩
  clear hb2 hd2 hp hbb hmb hs1 HB1
  go_wp2
  go_loopw [6, 7, 8] (fun vl vr vi wr => ∃ i top u : Nat, i ≤ pl ∧ i ≤ 10 ∧ top ≤ i ∧ u ≤ 7 * i ∧ vi = .int .i64 (i : Int) ∧ vl = .int .i64 (top : Int) ∧ vr = .int .i64 (100 - (u : Int)) ∧ Hid ((∃ L A, Dc wr w p bb mb 0 100 100 L u top A ∧ L.length ≤ i) ∧ bb < wr.heap.size)) (fun _ _ vi _ => 10 - (intOf vi).toNat)
  case atStart =>
    obtain ⟨L, u, A, h1, h2, h3, h4, h5⟩ := H2.out
    subst h4
    exact ⟨0, 0, 0, Nat.zero_le _, Nat.zero_le _, Nat.le_refl _, Nat.le_refl _, rfl, rfl, rfl, Lib.hid ⟨⟨L, A, h1, h3⟩, h5⟩⟩
  case round =>
    clear H2
    obtain ⟨i, top, u, hi1, hi2, ht1, hu1, rfl, rfl, rfl, HB⟩ := hrel
    by_cases q1 : i < pl
    · have q1' : (i : Int) < (pl : Int) := by omega
      by_cases q2 : i < 10
      · have q2' : (i : Int) < 10 := by omega
        obtain ⟨L, A, hdc, hLi⟩ := HB.out.1
        have HK := Lib.hid (And.intro hdc (And.intro hLi HB.out.2))
        obtain ⟨tb, tof, x, n, c, rfl, htb, _, ct0, tt, tc⟩ := HL0.out.at_ q1
        obtain ⟨r, hr⟩ : ∃ r, ps.getD i [] = r := ⟨_, rfl⟩
        rw [hr] at tt
        have CT := Lib.hid (fun (wx : World) (hb : Below w.heap.size w wx) => show wx.cell? ⟨tb, tof + i, none⟩ = some (.slice x n c) from (World.cell?_of_block (hb.block tb htb)).trans ct0)
        have TT := Lib.hid (fun (wx : World) (hb : Below w.heap.size w wx) => show Txt wx (· < w.heap.size) x n c r from tt.keep hb.size (fun b hb' _ => hb.block b hb'))
        unfold maxLen at tc
        have hnc : n ≤ c := tt.2.1
        have HR : Hid (r.length = n ∧ Jl.need r = (n + 43) / 44) := Lib.hid ⟨tt.1, by rw [← tt.1]; rfl⟩
        clear hdc hLi tt htb HB hr ct0
        go_wp2_with fail
        refine (open_any (fr := 0) (m := 100) HK.out.1.dk HK.out.1.up (by omega)).mono ?_
        rintro e w4 ⟨j, v, rfl, hj4, hjs4, hb4⟩
        obtain ⟨r1, r2, r3⟩ := HK.out.1.clean.reads
        rw [r1, r2, r3] at hj4
        obtain ⟨T, hT⟩ : ∃ T, top + 1 = T := ⟨_, rfl⟩
        rw [hT] at hj4
        have H4 : Hid (Bk w4 w wr.heap.size j p bb mb 0 100 100 v (.slice none 0 0) L [] u top T A ∧ Pl w wr.heap.size j p bb mb ∧ wr.heap.size ≤ w4.heap.size) := Lib.hid ⟨⟨hj4, HK.out.1.dk.old hb4, HK.out.1.up, HK.out.1.clean, Want.nil _ _ _, HK.out.1.below.trans (hb4.mono HK.out.1.below.size), HK.out.1.short, fun g hg => by cases hg⟩, by have h1 := HP.out; have h2 := HK.out.1.below.size; have h3 := HK.out.2.2; exact ⟨by omega, by omega, by omega, by omega, by omega, by omega⟩, hb4.size⟩
        clear hj4 hjs4 hb4 r1 r2 r3
        go_wp2_with fail
        refine (jLife_any H4.out.1.jr).mono ?_
        rintro e w5 ⟨rfl, rfl⟩
        have q3 : ¬ (T : Int) ≤ (top : Int) := by omega
        have q3' : decide (T ≤ top) = false := by simp; omega
        have HT := Lib.hid hT
        have hTl : T ≤ 11 := by omega
        clear hT
        go_wp2_with fail
        refine (jRoom_any H4.out.1.jr).mono ?_
        rintro e w5 ⟨rfl, rfl⟩
        have e5 : ((100 - u : Nat) : Int) = 100 - (u : Int) := by omega
        have q4 : ((100 - (u : Int)) != (100 - (u : Int))) = false := by simp
        rw [e5]
        have ct := CT.out w4 H4.out.1.below
        clear e5
        by_cases q5 : n = 0 ∨ 300 < n
        · have HD : Hid (∃ L A, Dc w4 w p bb mb 0 100 100 L u top A ∧ L.length ≤ i + 1) := Lib.hid ⟨L, A, ⟨H4.out.1.dk, H4.out.1.up, H4.out.1.clean, H4.out.1.below, H4.out.1.short⟩, by have := HK.out.2.1; omega⟩
          have hbs : bb < w4.heap.size := by have := HK.out.2.2; have := H4.out.2.2; omega
          by_cases q6 : n = 0
          · subst q6
            go_wp2
            go_roundw
            case rel => exact ⟨i + 1, top, u, by omega, by omega, by omega, by omega, by go_num, rfl, rfl, Lib.hid ⟨HD.out, hbs⟩⟩
            case measure => simp [intOf]; omega
          · have q6' : ((n : Int) == 0) = false := by simp; omega
            have q7 : (300 : Int) < (n : Int) := by omega
            go_wp2
            go_roundw
            case rel => exact ⟨i + 1, top, u, by omega, by omega, by omega, by omega, by go_num, rfl, rfl, Lib.hid ⟨HD.out, hbs⟩⟩
            case measure => simp [intOf]; omega
        · have q6' : ((n : Int) == 0) = false := by simp; omega
          have q7 : ¬ (300 : Int) < (n : Int) := by omega
          have q8 : 0 < n ∧ n ≤ 300 := by omega
          clear q5
          go_wp2_with fail
          refine (bk_append H4.out.1 H4.out.2.1 (TT.out w4 H4.out.1.below) q8.1 q8.2 (by have := HR.out.2; omega) (by omega) (by have := HT.out; omega) (by omega) (by have := HT.out; omega) (by have := HK.out.2.1; omega) H4.out.2.2).mono ?_
          rintro e w6 ⟨v6, rfl, hb6, hz6⟩
          have H6 := Lib.hid (And.intro hb6 hz6)
          clear hb6 hz6
          go_wp2_with fail
          refine (bk_force H6.out.1 H4.out.2.1).mono ?_
          rintro e w7 ⟨rfl, hb7, hz7⟩
          have H7 := Lib.hid (And.intro hb7 hz7)
          have ct7 := CT.out w7 hb7.below
          clear hb7 hz7 ct q4
          go_wp2_with fail
          refine (jLife_any H7.out.1.jr).mono ?_
          rintro e w8 ⟨rfl, rfl⟩
          obtain ⟨M, hM⟩ : ∃ M, Jl.need r = M := ⟨_, rfl⟩
          have hMn : M = (n + 43) / 44 := by rw [← hM]; exact HR.out.2
          have h4 : ((n : Int) + 43) / 44 = (M : Int) := by omega
          have HM := Lib.hid (And.intro hM hMn)
          have hM7 : M ≤ 7 := by omega
          clear hM hMn
          go_wp2_with fail
          refine (jRoom_any H7.out.1.jr).mono ?_
          rintro e w8 ⟨rfl, rfl⟩
          rw [HM.out.1]
          clear h4
          have e5 : ((100 - (u + M) : Nat) : Int) = 100 - (u : Int) - (M : Int) := by omega
          have q9 : ((100 - (u : Int) - (M : Int)) != (100 - (u : Int) - (M : Int))) = false := by simp
          rw [e5]
          clear e5
          go_wp2
          go_roundw
          case rel => exact ⟨i + 1, T, u + M, by omega, by omega, by have := HT.out; omega, by omega, by go_num, by rfl, by congr 1; omega, Lib.hid ⟨⟨_, _, ⟨H7.out.1.dk, H7.out.1.up, by rw [← HM.out.1]; exact H7.out.1.clean, H7.out.1.below, H7.out.1.short⟩, by rw [List.length_append, List.length_singleton]; have := HK.out.2.1; omega⟩, by have := HK.out.2.2; have := H4.out.2.2; have := H6.out.2; have := H7.out.2; omega⟩⟩
          case measure => simp [intOf]; omega
      · have q2' : ¬ (i : Int) < 10 := by omega
        go_wp2
        go_ret
        obtain ⟨L, A, hdc, _⟩ := HB.out.1
        exact ⟨rfl, hdc.below⟩
    · have q1' : ¬ (i : Int) < (pl : Int) := by omega
      go_wp2
      go_ret
      obtain ⟨L, A, hdc, _⟩ := HB.out.1
      exact ⟨rfl, hdc.below⟩
end Go.Proofs.Ytfecobkpdmjaeaa
