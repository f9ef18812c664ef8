/-
  The walk of JournalFull.
-/
import Derived.Test.YtfecobkpdmjaeaaQr
namespace Go.Proofs.Ytfecobkpdmjaeaa
open Go.RowKit
set_option linter.unusedVariables false
set_option linter.unusedSimpArgs false
set_option maxRecDepth 20000
/-- Records, and Same of them and what is wanted. -/
theorem bk_same {w W : World} {B j p bb mb fr m N : Nat} {v vW : Value} {L : List (List Int)} {u top life : Nat} {A : Dm.A} (h : Bk w W B j p bb mb fr m N v vW L L u top life A) (hL : L.length ≤ 100) {g : Nat} {S : Nat → Prop} (hp : Parts w S (some ⟨g, 0, none⟩) L.length L) :
    Calls Try.prog 26 #[.slice (some ⟨g, 0, none⟩) L.length L.length, vW] w fun e w' => e = .returned (.bool true) ∧ Bk w' W B j p bb mb fr m N v vW L L u top life A ∧ w.heap.size ≤ w'.heap.size := by
  obtain ⟨q, c, rfl, hq⟩ := h.want.parts
  refine (sameR_any hp hq (by omega)).mono ?_
  rintro e w' ⟨rfl, qn, rfl⟩
  exact ⟨rfl, h.step ⟨rfl, rfl, rfl, Nat.le_refl _, fun _ _ => rfl⟩, Nat.le_refl _⟩
def BkRecs (W : World) (w : World) (B j p bb mb fr m N : Nat) (v vW : Value) (L : List (List Int)) (u top life : Nat) (A : Dm.A) (e : Ending) (w' : World) : Prop :=
  ∃ g, e = .returned (.slice (some ⟨g, 0, none⟩) L.length L.length) ∧ Parts w' (w.heap.size ≤ ·) (some ⟨g, 0, none⟩) L.length L ∧ Bk w' W B j p bb mb fr m N v vW L L u top life A ∧ w.heap.size ≤ w'.heap.size
theorem bk_recs {w W : World} {B j p bb mb fr m N : Nat} {v vW : Value} {L : List (List Int)} {u top life : Nat} {A : Dm.A} (h : Bk w W B j p bb mb fr m N v vW L L u top life A) (hL : L.length ≤ 100) :
    Calls Try.prog 27 #[.pointer (some ⟨j, 0, none⟩)] w (BkRecs W w B j p bb mb fr m N v vW L u top life A) := by
  refine (jRecords_any h.jr ⟨by omega, fun l hl => by have := h.short l hl; omega⟩).mono ?_
  rintro e w' ⟨g, rfl, hp, hb⟩
  exact ⟨g, rfl, hp, h.step hb, hb.size⟩
set_option maxHeartbeats 8000000 in
set_option maxRecDepth 100000 in
theorem full_walk (y : Int) (pa : Option Addr) (pl pc : Nat) (ps : List (List Int)) (w : World) (y0 : 0 ≤ y) (y1 : y < 256) (hps : Txs w (· < w.heap.size) pa pl ps) :
    Calls Try.prog 9 #[.int .u8 y, .slice pa pl pc] w fun e w' => e = .returned (.bool true) ∧ Below w.heap.size w w' := by
  have hpm := hps.1
  unfold maxLen at hpm
  have HL0 := Lib.hid hps
  clear hps
  obtain ⟨Y, rfl⟩ := Int.eq_ofNat_of_zero_le y0
  have hY : Y < 256 := by omega
  clear y0 y1
  go_enter Try.func9, Try.ntmps9
  go_wp2_with fail
  refine awake_any.mono ?_
  rintro e w1 ⟨rfl, hb1⟩
  have HB1 := Lib.hid hb1
  clear hb1
  go_wp2_with fail
  refine (new_ok (n := 30) (by omega)).mono ?_
  rintro e w2 ⟨p, bb, mb, rfl, hd2, hp, hbb, hmb, hb2⟩
  have hs1 := HB1.out.size
  have HP : Hid (w.heap.size ≤ p ∧ w.heap.size ≤ bb ∧ w.heap.size ≤ mb ∧ p < w2.heap.size ∧ bb < w2.heap.size ∧ mb < w2.heap.size) := Lib.hid ⟨by omega, by omega, by omega, hd2.cells.lt, hd2.bytes.lt, hd2.map.lt⟩
  have H2 := Lib.hid (And.intro hd2 (HB1.out.trans (hb2.mono hs1)))
  clear hb2 hd2 hp hbb hmb hs1 HB1
  obtain ⟨K, hK⟩ : ∃ K, Y % 31 = K := ⟨_, rfl⟩
  have hK1 : (Y : Int) % 31 = (K : Int) := by omega
  have hK2 : K ≤ 30 := by omega
  have HK0 := Lib.hid hK
  clear hK
  go_wp2_with fail
  rw [hK1]
  clear hK1
  refine (open_any (fr := 0) (m := K) H2.out.1 rfl (by omega)).mono ?_
  rintro e w3 ⟨j, v, rfl, hj3, hjs, hb3⟩
  have hcl := clean_fresh 30 0 K (by omega)
  obtain ⟨r1, r2, r3⟩ := hcl.reads
  rw [r1, r2, r3] at hj3
  have HJ : Hid (w2.heap.size ≤ j ∧ j < w3.heap.size ∧ w.heap.size ≤ w2.heap.size) := Lib.hid ⟨hjs, hj3.cells.lt, H2.out.2.size⟩
  have H3 : Hid (∃ v L u top A, Bk w3 w w2.heap.size j p bb mb 0 K 30 v (.slice none 0 0) L L u top 1 A ∧ top ≤ 1 ∧ L.length ≤ 0) := Lib.hid ⟨v, [], 0, 0, fresh 30, ⟨hj3, H2.out.1.old hb3, rfl, hcl, Want.nil _ _ _, H2.out.2.trans (hb3.mono H2.out.2.size), fun l hl => (by cases hl), fun g hg => (by cases hg)⟩, by omega, by simp⟩
  have HPL : Hid (Pl w w2.heap.size j p bb mb) := Lib.hid (by have h1 := HP.out; have h2 := HJ.out; exact ⟨by omega, by omega, by omega, by omega, by omega, by omega⟩)
  have HSZ : Hid (w2.heap.size ≤ w3.heap.size) := Lib.hid hb3.size
  clear hj3 hjs hb3 hcl r1 r2 r3 H2
  obtain ⟨B, hB⟩ : ∃ B, w2.heap.size = B := ⟨_, rfl⟩
  rw [hB] at H3 HPL HSZ
  clear hB HP HJ
  go_wp2
  go_loopw [11, 12] (fun vW vi wr => ∃ i : Nat, i ≤ pl ∧ i ≤ 20 ∧ vi = .int .i64 (i : Int) ∧ Hid ((∃ v L u top A, Bk wr w B j p bb mb 0 K 30 v vW L L u top 1 A ∧ top ≤ 1 ∧ L.length ≤ i) ∧ B ≤ wr.heap.size)) (fun _ vi _ => 20 - (intOf vi).toNat)
  case atStart => exact ⟨0, Nat.zero_le _, Nat.zero_le _, rfl, Lib.hid ⟨H3.out, HSZ.out⟩⟩
  case round =>
    clear H3 HSZ
    obtain ⟨i, hi1, hi2, rfl, HB⟩ := hrel
    by_cases q12 : i < pl ∧ i < 20
    · obtain ⟨q1, q2⟩ := q12
      have q1' : (i : Int) < (pl : Int) := by omega
      have q2' : (i : Int) < 20 := by omega
      obtain ⟨v, L, u, top, A, hbk, htop, hLi⟩ := HB.out.1
      have hule := hbk.clean.le
      have HK := Lib.hid (And.intro hbk (And.intro htop (And.intro hLi HB.out.2)))
      obtain ⟨tb, tof, x, n, c, rfl, htb, _, ct0, tt, tc⟩ := HL0.out.at_ q1
      obtain ⟨r, hr⟩ : ∃ r, ps.getD i [] = r := ⟨_, rfl⟩
      rw [hr] at tt
      have CT := Lib.hid (fun (wx : World) (hb : Below w.heap.size w wx) => show wx.cell? ⟨tb, tof + i, none⟩ = some (.slice x n c) from (World.cell?_of_block (hb.block tb htb)).trans ct0)
      have TT := Lib.hid (fun (wx : World) (hb : Below w.heap.size w wx) => show Txt wx (· < w.heap.size) x n c r from tt.keep hb.size (fun b hb' _ => hb.block b hb'))
      have ct := CT.out wr hbk.below
      unfold maxLen at tc
      have hnc : n ≤ c := tt.2.1
      have HR : Hid (r.length = n ∧ Jl.need r = (n + 43) / 44) := Lib.hid ⟨tt.1, by rw [← tt.1]; rfl⟩
      clear hbk htop hLi tt htb HB hr ct0
      by_cases q3 : 300 < n
      · have q3' : (300 : Int) < (n : Int) := by omega
        go_wp2
        go_roundw
        case rel => exact ⟨i + 1, by omega, by omega, by go_num, Lib.hid ⟨⟨v, L, u, top, A, HK.out.1, HK.out.2.1, by have := HK.out.2.2.1; omega⟩, HK.out.2.2.2⟩⟩
        case measure => simp [intOf]; omega
      · have q3' : ¬ (300 : Int) < (n : Int) := by omega
        obtain ⟨M, hM⟩ : ∃ M, Jl.need r = M := ⟨_, rfl⟩
        have hMn : M = (n + 43) / 44 := by rw [← hM]; exact HR.out.2
        have h4 : ((n : Int) + 43) / 44 = (M : Int) := by omega
        have HM := Lib.hid (And.intro hM hMn)
        clear hM hMn
        go_wp2_with fail
        refine (jRoom_any HK.out.1.jr).mono ?_
        rintro e w4 ⟨rfl, rfl⟩
        obtain ⟨R, hR⟩ : ∃ R, K - u = R := ⟨_, rfl⟩
        rw [hR]
        have HRr := Lib.hid hR
        have hRl : R ≤ 30 := by omega
        clear hR
        go_wp2_with fail
        rw [h4]
        clear h4
        by_cases q4 : n = 0
        · subst q4
          refine (jAppend_rec (Or.inl rfl)).mono ?_
          rintro e w4 ⟨rfl, rfl⟩
          have HT5 := Lib.hid (And.intro HK.out.1 (And.intro HK.out.2.2.2 (show L.length ≤ 50 by have := HK.out.2.2.1; omega)))
          go_wp2_with fail
          refine (bk_recs HT5.out.1 (by have := HT5.out.2.2; omega)).mono ?_
          rintro e w8 ⟨g8, rfl, hp8, hb8, hz8⟩
          have H8 := Lib.hid (And.intro hp8 (And.intro hb8 hz8))
          clear hp8 hb8 hz8
          go_wp2_with fail
          refine (bk_same H8.out.2.1 (by have := HT5.out.2.2; omega) H8.out.1).mono ?_
          rintro e w9 ⟨rfl, hb9, hz9⟩
          have H9 := Lib.hid (And.intro hb9 hz9)
          clear hb9 hz9
          go_wp2_with fail
          refine (jRoom_any H9.out.1.jr).mono ?_
          rintro e w10 ⟨rfl, rfl⟩
          rw [HRr.out]
          have q9 : ((R : Int) != (R : Int)) = false := by simp
          go_wp2
          go_roundw
          case rel => exact ⟨i + 1, by omega, by omega, by go_num, Lib.hid ⟨⟨v, L, u, top, A, H9.out.1, HK.out.2.1, by have := HK.out.2.2.1; omega⟩, by have := HK.out.2.2.2; have := H8.out.2.2; have := H9.out.2; omega⟩⟩
          case measure => simp [intOf]; omega
        · have q4' : ((n : Int) == 0) = false := by simp; omega
          have q5 : (0 : Int) < (n : Int) := by omega
          have q5' : decide (0 < n) = true := by simp; omega
          by_cases q6 : R < M
          · have q6' : (R : Int) < (M : Int) := by omega
            have q6a : decide (R < M) = true := by simp; omega
            have q6b : decide (M ≤ R) = false := by simp; omega
            refine (jAppend_full HK.out.1.jr (by omega) (by omega) (by have := HRr.out; have := HM.out.2; omega)).mono ?_
            rintro e w4 ⟨rfl, rfl⟩
            have HT5 := Lib.hid (And.intro HK.out.1 (And.intro HK.out.2.2.2 (show L.length ≤ 50 by have := HK.out.2.2.1; omega)))
            go_wp2_with fail
            refine (bk_recs HT5.out.1 (by have := HT5.out.2.2; omega)).mono ?_
            rintro e w8 ⟨g8, rfl, hp8, hb8, hz8⟩
            have H8 := Lib.hid (And.intro hp8 (And.intro hb8 hz8))
            clear hp8 hb8 hz8
            go_wp2_with fail
            refine (bk_same H8.out.2.1 (by have := HT5.out.2.2; omega) H8.out.1).mono ?_
            rintro e w9 ⟨rfl, hb9, hz9⟩
            have H9 := Lib.hid (And.intro hb9 hz9)
            clear hb9 hz9
            go_wp2_with fail
            refine (jRoom_any H9.out.1.jr).mono ?_
            rintro e w10 ⟨rfl, rfl⟩
            rw [HRr.out]
            have q9 : ((R : Int) != (R : Int)) = false := by simp
            go_wp2
            go_roundw
            case rel => exact ⟨i + 1, by omega, by omega, by go_num, Lib.hid ⟨⟨v, L, u, top, A, H9.out.1, HK.out.2.1, by have := HK.out.2.2.1; omega⟩, by have := HK.out.2.2.2; have := H8.out.2.2; have := H9.out.2; omega⟩⟩
            case measure => simp [intOf]; omega
          · have q6' : ¬ (R : Int) < (M : Int) := by omega
            have q6a : decide (R < M) = false := by simp; omega
            have q6b : decide (M ≤ R) = true := by simp; omega
            refine (bk_append HK.out.1 HPL.out (TT.out wr HK.out.1.below) (by omega) (by omega) (by have := HM.out.1; have := HRr.out; omega) (by omega) (by omega) (by omega) HK.out.2.1 (by have := HK.out.2.2.1; omega) HK.out.2.2.2).mono ?_
            rintro e w4 ⟨v4, rfl, hb4, hz4⟩
            have ct4 := CT.out w4 hb4.below
            obtain ⟨vs, hv1, hv2⟩ := hb4.want
            have hb5 := below_alloc w4 (.cells #[.slice x n c] 37)
            have hv1' := own_below hv1 hb5
            have hv2' : ∀ (k : Nat) (l : List Int), L[k]? = some l → ∃ a n1 c1, (vs : List Value)[k]? = some (.slice a n1 c1) ∧ Txt (w4.alloc (.cells #[.slice x n c] 37)) (· < w.heap.size) a n1 c1 l := fun k l hl => by
              obtain ⟨a1, n1, c1, hu, hr⟩ := hv2 k l hl
              exact ⟨a1, n1, c1, hu, hr.keep hb5.size (fun b hb _ => hb5.block b hb)⟩
            have hws : B ≤ (w4.alloc (.cells #[.slice x n c] 37)).heap.size := by have := HK.out.2.2.2; have := hb5.size; omega
            have hL1 : L.length ≤ 1000 := by have := HK.out.2.2.1; omega
            have H4 := Lib.hid (And.intro hb4 (And.intro hv1' (And.intro hv2' (And.intro (hb4.step hb5) hz4))))
            clear hb4 hv1 hv2 hb5 hv1' hv2' hz4
            go_wp2_with (first | (at_builtin; refine wpList_append_one rfl (.tmp 115) (.tmp 120) 48 37 (.slice none 0 0) 24 rfl Try.underlying48 sl_info rfl (by omega) B u11 L.length vs rfl H4.out.2.1 w4.heap.size 37 (.slice x n c) rfl (Whole.new _ _ _) rfl (by omega) hws ?_; intro v6 w6 ho6 hg6 hn6) | fail)
            have H6 := bk_want H4.out.2.2.2.1 HPL.out H4.out.2.1 H4.out.2.2.1 (TT.out _ H4.out.2.2.2.1.below) ho6 hg6 hn6
            have HT5 := Lib.hid (And.intro H6 (And.intro (show B ≤ w6.heap.size by have := hg6.size; omega) (show (L ++ [r]).length ≤ 50 by rw [List.length_append, List.length_singleton]; have := HK.out.2.2.1; omega)))
            clear H6 ho6 hg6 hn6
            obtain ⟨L2, hL2⟩ : ∃ L2, L ++ [r] = L2 := ⟨_, rfl⟩
            rw [hL2] at HT5
            have HL2 : Hid (L2.length ≤ i + 1) := Lib.hid (by rw [← hL2, List.length_append, List.length_singleton]; have := HK.out.2.2.1; omega)
            clear hL2
            refine (bk_recs HT5.out.1 (by have := HT5.out.2.2; omega)).mono ?_
            rintro e w8 ⟨g8, rfl, hp8, hb8, hz8⟩
            have H8 := Lib.hid (And.intro hp8 (And.intro hb8 hz8))
            clear hp8 hb8 hz8
            go_wp2_with fail
            refine (bk_same H8.out.2.1 (by have := HT5.out.2.2; omega) H8.out.1).mono ?_
            rintro e w9 ⟨rfl, hb9, hz9⟩
            have H9 := Lib.hid (And.intro hb9 hz9)
            clear hb9 hz9
            go_wp2_with fail
            refine (jRoom_any H9.out.1.jr).mono ?_
            rintro e w10 ⟨rfl, rfl⟩
            have e5 : ((K - (u + Jl.need r) : Nat) : Int) = (R : Int) - (M : Int) := by have := HRr.out; have := HM.out.1; omega
            rw [e5]
            clear e5
            have q9 : (((R : Int) - (M : Int)) != ((R : Int) - (M : Int))) = false := by simp
            go_wp2
            go_roundw
            case rel => exact ⟨i + 1, by omega, by omega, by go_num, Lib.hid ⟨⟨v4, L2, _, _, _, H9.out.1, by omega, HL2.out⟩, by have := HT5.out.2.1; have := H8.out.2.2; have := H9.out.2; omega⟩⟩
            case measure => simp [intOf]; omega
    · obtain ⟨v, L, u, top, A, hbk, htop, hLi⟩ := HB.out.1
      have HK := Lib.hid (And.intro hbk (And.intro htop (And.intro hLi HB.out.2)))
      have hul := hbk.clean.le
      clear hbk htop hLi HB
      have KEY : ∀ {P : Prop}, (¬ (i : Int) < (pl : Int) → P) → ((i : Int) < (pl : Int) → ¬ (i : Int) < 20 → P) → P := fun h1 h2 => by
        by_cases h : i < pl
        · exact h2 (by omega) (by omega)
        · exact h1 (by omega)
      clear q12
      refine KEY (fun q1 => ?_) (fun q0 q1 => ?_)
      · clear KEY
        go_wp2_with fail
        refine (open_any (fr := 0) (m := K) HK.out.1.dk HK.out.1.up (by omega)).mono ?_
        rintro e w4 ⟨k, v4, rfl, hj4, hjs4, hb4⟩
        obtain ⟨r1, r2, r3⟩ := HK.out.1.clean.reads
        rw [r1, r2] at hj4
        have H4 : Hid (Jr w4 wr.heap.size k p v4 (0 + u) (K - u) (grt (bsOf A 0 K) + 1) L ∧ Bk w4 w B j p bb mb 0 K 30 v u11 L L u top 1 A) := Lib.hid ⟨hj4, HK.out.1.step hb4⟩
        clear hj4 hjs4 hb4 r1 r2 r3
        go_wp2_with fail
        refine (jRecords_any H4.out.1 ⟨by have := HK.out.2.2.1; omega, fun l hl => by have := HK.out.1.short l hl; omega⟩).mono ?_
        rintro e w5 ⟨g5, rfl, hp5, hb5⟩
        have H5 := Lib.hid (And.intro hp5 (H4.out.2.step hb5))
        clear hp5 hb5
        go_wp2_with fail
        refine (bk_same H5.out.2 (by have := HK.out.2.2.1; omega) H5.out.1).mono ?_
        rintro e w6 ⟨rfl, hb6, hz6⟩
        have H6 := Lib.hid hb6
        clear hb6 hz6
        go_wp2
        go_ret
        exact ⟨rfl, H6.out.below⟩
      · clear KEY
        go_wp2_with fail
        refine (open_any (fr := 0) (m := K) HK.out.1.dk HK.out.1.up (by omega)).mono ?_
        rintro e w4 ⟨k, v4, rfl, hj4, hjs4, hb4⟩
        obtain ⟨r1, r2, r3⟩ := HK.out.1.clean.reads
        rw [r1, r2] at hj4
        have H4 : Hid (Jr w4 wr.heap.size k p v4 (0 + u) (K - u) (grt (bsOf A 0 K) + 1) L ∧ Bk w4 w B j p bb mb 0 K 30 v u11 L L u top 1 A) := Lib.hid ⟨hj4, HK.out.1.step hb4⟩
        clear hj4 hjs4 hb4 r1 r2 r3
        go_wp2_with fail
        refine (jRecords_any H4.out.1 ⟨by have := HK.out.2.2.1; omega, fun l hl => by have := HK.out.1.short l hl; omega⟩).mono ?_
        rintro e w5 ⟨g5, rfl, hp5, hb5⟩
        have H5 := Lib.hid (And.intro hp5 (H4.out.2.step hb5))
        clear hp5 hb5
        go_wp2_with fail
        refine (bk_same H5.out.2 (by have := HK.out.2.2.1; omega) H5.out.1).mono ?_
        rintro e w6 ⟨rfl, hb6, hz6⟩
        have H6 := Lib.hid hb6
        clear hb6 hz6
        go_wp2
        go_ret
        exact ⟨rfl, H6.out.below⟩
end Go.Proofs.Ytfecobkpdmjaeaa
