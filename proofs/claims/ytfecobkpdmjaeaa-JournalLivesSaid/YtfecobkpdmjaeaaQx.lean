/-
  The walk of JournalLasts: its rounds.
-/
import Derived.Test.YtfecobkpdmjaeaaQw
import Derived.Test.YtfecobkpdmjaeaaQs
namespace Go.Proofs.Ytfecobkpdmjaeaa
open Go.RowKit
set_option linter.unusedVariables false
set_option linter.unusedSimpArgs false
set_option maxRecDepth 20000
theorem und_call : ∃ fs, Try.prog.underlying 40 = some (.struct fs) := ⟨_, Try.underlying40⟩
theorem info_call : (Try.prog.info? 40).map (·.size) = some 4 := by kernel_rfl
theorem zero_call (w : World) : (zeroValue 40).run Try.prog w = .ok (.agg #[.int .i64 0, .slice none 0 0, .int .i64 0, .slice none 0 0]) w := by kernel_rfl
theorem Jcs.at_ {w : World} {S : Nat → Prop} {a : Option Addr} {n : Nat} {cs : List Jc} (h : Jcs w S a n cs) {i : Nat} (hi : i < n) : ∃ b off c l, a = some ⟨b, off, none⟩ ∧ S b ∧ b < w.heap.size ∧ cs[i]? = some c ∧ w.rangeAt b (off + i * 4) l ∧ JcOf w S l c := by
  obtain ⟨b, off, rfl, hs, hb, hc⟩ := h.2.2.resolve_left (by omega)
  obtain ⟨c, hci⟩ : ∃ c, cs[i]? = some c := ⟨_, List.getElem?_eq_getElem (by have := h.2.1; omega)⟩
  obtain ⟨l, h1, h2⟩ := hc i c hci
  exact ⟨b, off, c, l, rfl, hs, hb, hci, h1, h2⟩
theorem JcOf.keep {w w' : World} {S : Nat → Prop} {l : List Value} {c : Jc} (h : JcOf w S l c) (hz : w.heap.size ≤ w'.heap.size) (hk : ∀ b, b < w.heap.size → S b → w'.heap[b]? = w.heap[b]?) : JcOf w' S l c := by
  obtain ⟨⟨ba, bn, bc, fa, fn, fc, e, h3, h4, h5, h6⟩, k1, k2⟩ := h
  exact ⟨⟨ba, bn, bc, fa, fn, fc, e, h3.keep hz hk, h4, h5.keep hz hk, h6⟩, k1, k2⟩
theorem Parts.take {w : World} {S : Nat → Prop} {a : Option Addr} {n k : Nat} {ps : List (List Int)} (h : Parts w S a n ps) (hk : k ≤ n) : Parts w S a k (ps.take k) := by
  refine ⟨by rw [List.length_take]; have := h.1; omega, ?_⟩
  rcases h.2 with h0 | ⟨b, off, rfl, hS, hb, hc⟩
  · exact Or.inl (by rw [h0, List.take_nil])
  · refine Or.inr ⟨b, off, rfl, hS, hb, fun i hi => ?_⟩
    obtain ⟨a', n', c', h1, h2⟩ := hc i (by omega)
    refine ⟨a', n', c', h1, ?_⟩
    have e : (ps.take k).getD i [] = ps.getD i [] := by rw [List.getD_eq_getElem?_getD, List.getD_eq_getElem?_getD, List.getElem?_take, if_pos hi]
    rw [e]
    exact h2
def Lj (W : World) (cl : Nat) (p bb mb : Nat) (vj vf : Value) (i : Nat) (wr : World) : Prop :=
  ∃ (B j : Nat) (v : Value) (L : List (List Int)) (u F life : Nat) (A : Dm.A), vj = .pointer (some ⟨j, 0, none⟩) ∧ vf = .int .i64 (F : Int) ∧ Js wr W B j p bb mb v L u F life A ∧ L.length ≤ i ∧ life ≤ i + 1 ∧ F ≤ i
set_option maxHeartbeats 8000000 in
set_option maxRecDepth 100000 in
theorem lasts_walk (ca : Option Addr) (cl cc : Nat) (cs : List Jc) (w : World) (hcs : Jcs w (· < w.heap.size) ca cl cs) :
    Calls Try.prog 5 #[.slice ca cl cc] w fun e w' => e = .returned (.bool true) ∧ Below w.heap.size w w' := by
  have hcm := hcs.1
  unfold maxLen at hcm
  have HL0 := Lib.hid hcs
  clear hcs
  go_enter Try.func5, Try.ntmps5
  go_wp2_with fail
  refine awake_any.mono ?_
  rintro e w1 ⟨rfl, hb1⟩
  have HB1 := Lib.hid hb1
  clear hb1
  go_wp2_with fail
  refine (new_ok (n := 60) (by omega)).mono ?_
  rintro e w2 ⟨p, bb, mb, rfl, hd2, hp, hbb, hmb, hb2⟩
  have hs1 := HB1.out.size
  have HP : Hid (w.heap.size ≤ p ∧ w.heap.size ≤ bb ∧ w.heap.size ≤ mb ∧ p < w2.heap.size ∧ bb < w2.heap.size ∧ mb < w2.heap.size) := Lib.hid ⟨by omega, by omega, by omega, hd2.cells.lt, hd2.bytes.lt, hd2.map.lt⟩
  have H2 := Lib.hid (And.intro hd2 (HB1.out.trans (hb2.mono hs1)))
  clear hb2 hd2 hp hbb hmb hs1 HB1
  go_wp2_with fail
  refine (open_any (fr := 3) (m := 50) H2.out.1 rfl (by omega)).mono ?_
  rintro e w3 ⟨j, v, rfl, hj3, hjs, hb3⟩
  have hz : bsOf (fresh 60) 3 50 = List.replicate 50 z64 := by decide +kernel
  have hz2 : lsOf (fresh 60) 3 50 = List.replicate 50 z64 := by decide +kernel
  have hw0 : Wal (bsOf (fresh 60) 3 50) (lsOf (fresh 60) 3 50) (Jl.go (bsOf (fresh 60) 3 50) (J0 0)).recs (Jl.go (bsOf (fresh 60) 3 50) (J0 0)).used (Jl.go (bsOf (fresh 60) 3 50) (J0 0)).recs.length (grt (bsOf (fresh 60) 3 50) + 1) := by
    rw [hz2, ← hz]
    exact wal_open (fun b hb => by rw [hz] at hb; rw [(List.mem_replicate.1 hb).2]; exact z64_sm)
  have e0 : (Jl.go (bsOf (fresh 60) 3 50) (J0 0)).recs = [] ∧ (Jl.go (bsOf (fresh 60) 3 50) (J0 0)).used = 0 ∧ grt (bsOf (fresh 60) 3 50) = 0 := by rw [hz, go_zeros, grt_zeros]; exact ⟨rfl, rfl, rfl⟩
  rw [e0.1, e0.2.1, e0.2.2] at hj3
  rw [e0.1, e0.2.1, e0.2.2] at hw0
  have H3 : Hid (Lj w cl p bb mb (.pointer (some ⟨j, 0, none⟩)) (.int .i64 0) 0 w3) := Lib.hid ⟨w2.heap.size, j, v, [], 0, 0, 1, fresh 60, rfl, rfl, ⟨hj3, H2.out.1.old hb3, rfl, hw0, H2.out.2.trans (hb3.mono H2.out.2.size), fun l hl => (by cases hl), by have h1 := HP.out; have h2 := H2.out.2.size; exact ⟨by omega, by omega, by omega, by omega, by omega, by omega⟩, hb3.size⟩, by simp, by omega, by omega⟩
  have HQ : Hid (w.heap.size ≤ p ∧ w.heap.size ≤ bb ∧ w.heap.size ≤ mb) := Lib.hid ⟨HP.out.1, HP.out.2.1, HP.out.2.2.1⟩
  clear hj3 hjs hb3 hw0 e0 hz hz2 H2 HP
  go_wp2
  go_loopw [6, 8, 9] (fun vj vf vi wr => ∃ i : Nat, i ≤ cl ∧ i ≤ 40 ∧ vi = .int .i64 (i : Int) ∧ Hid (Lj w cl p bb mb vj vf i wr)) (fun _ _ vi _ => 40 - (intOf vi).toNat)
  case atStart => exact ⟨0, Nat.zero_le _, Nat.zero_le _, rfl, H3⟩
  case round =>
    clear H3
    obtain ⟨i, hi1, hi2, rfl, HB⟩ := hrel
    by_cases q1 : i < cl
    · have q1' : (i : Int) < (cl : Int) := by omega
      by_cases q2 : i < 40
      · have q2' : (i : Int) < 40 := by omega
        obtain ⟨B, j, v, L, u, F, life, A, rfl, rfl, hjs, hLi, hli, hFi⟩ := HB.out
        have HK := Lib.hid (And.intro hjs (And.intro hLi (And.intro hli hFi)))
        obtain ⟨sb, so, c, l, rfl, hsb, _, hci, hr, hof⟩ := HL0.out.at_ q1
        have hofr := hof.keep hjs.below.size (fun b hb _ => hjs.below.block b hb)
        have hrr : wr.rangeAt sb (so + i * 4) l := fun jj vv hv => (World.cell?_of_block (w := w) (hjs.below.block sb hsb)).trans (hr jj vv hv)
        obtain ⟨⟨ba, bn, bc, fa, fn, fc, rfl, htx, hbc, hit, hfn⟩, hk1, hk2⟩ := hofr
        have hbn : bn ≤ bc := htx.2.1
        have HC := Lib.hid (And.intro hrr (And.intro htx (And.intro hit hfn)))
        obtain ⟨ki, hki⟩ : ∃ ki, c.kind = ki := ⟨_, rfl⟩
        obtain ⟨nn, hnn⟩ : ∃ nn, c.n = nn := ⟨_, rfl⟩
        rw [hki, hnn] at HC
        rw [hki] at hk1
        unfold maxLen at hbc
        have HJ := Lib.hid hjs
        clear hjs hLi hli hFi hci hr hof hrr htx hit hki hnn hk2 HB
        have hzc := zero_call
        obtain ⟨fds, hund⟩ := und_call
        have HU := Lib.hid hund
        clear hund
        go_upto_if 52 with (first | ((with_reducible show wpList _ _ _ ((⟨_, Op.load 40 _, _, _, _, _⟩ : Oper) :: _) _ _); refine wpList_load_mid rfl 40 (.tmp 47) rfl sb (so + i * 4) rfl [.int .i64 ki, .slice ba bn bc, .int .i64 nn, .slice fa fn fc] _ HC.out.1 HU.out rfl info_call ?_) | fail)
        have k4 := Whole.new wr 40 #[.int .i64 ki, .slice ba bn bc, .int .i64 nn, .slice fa fn fc]
        have b4 := below_alloc wr (.cells #[.int .i64 ki, .slice ba bn bc, .int .i64 nn, .slice fa fn fc] 40)
        have H4 := Lib.hid (And.intro k4 (And.intro (HJ.out.step b4) (And.intro (HC.out.2.1.keep b4.size (fun b hb _ => b4.block b hb)) (And.intro (HC.out.2.2.1.keep b4.size (fun b hb _ => b4.block b hb)) HC.out.2.2.2))))
        have hGw : w.heap.size ≤ wr.heap.size := HJ.out.below.size
        obtain ⟨w4, h4⟩ : ∃ w4, wr.alloc (.cells #[.int .i64 ki, .slice ba bn bc, .int .i64 nn, .slice fa fn fc] 40) = w4 := ⟨_, rfl⟩
        obtain ⟨G, hG⟩ : ∃ G, wr.heap.size = G := ⟨_, rfl⟩
        rw [h4] at H4 ⊢
        rw [hG] at H4 hGw ⊢
        have c0 : w4.cell? ⟨G, 0, none⟩ = some (.int .i64 ki) := H4.out.1.cell 0
        have c1 : w4.cell? ⟨G, 1, none⟩ = some (.slice ba bn bc) := H4.out.1.cell 1
        clear k4 b4 h4 hG hzc
        by_cases q3 : 300 < bn
        · have q3' : (300 : Int) < (bn : Int) := by omega
          go_wp2
          go_roundw
          case rel => exact ⟨i + 1, by omega, by omega, by go_num, Lib.hid ⟨B, j, v, L, u, F, life, A, rfl, rfl, H4.out.2.1, by have := HK.out.2.1; omega, by have := HK.out.2.2.1; omega, by have := HK.out.2.2.2; omega⟩⟩
          case measure => simp [intOf]; omega
        · have q3' : ¬ (300 : Int) < (bn : Int) := by omega
          by_cases q4 : ki = 1
          · subst q4
            go_wp2_with fail
            refine (js_append H4.out.2.1 H4.out.2.2.1 (by omega) (by have := HK.out.2.2.1; omega) (by have := HK.out.2.1; omega)).mono ?_
            rintro e w5 ⟨z, rfl, v5, L5, u5, A5, hj5, hL5, ho5⟩
            have k5 : Whole w5 G 40 #[.int .i64 1, .slice ba bn bc, .int .i64 nn, .slice fa fn fc] := H4.out.1.keep (ho5.block G H4.out.1.lt (by
              obtain ⟨d1, d2, d3⟩ := dk_types H4.out.2.1.dk H4.out.1
              simp only [List.mem_cons, List.not_mem_nil, or_false, not_or]
              refine ⟨d1 (by decide), d2 (by decide), d3, fun e => ?_⟩
              subst e
              have h1 := H4.out.1
              have h2 := H4.out.2.1.jr.cells
              unfold Whole at h1 h2
              rw [h1] at h2
              injection h2 with h3
              injection h3 with _ h4
              exact absurd h4 (by decide)))
            have c5 : w5.cell? ⟨G, 0, none⟩ = some (.int .i64 1) := k5.cell 0
            have H5 := Lib.hid (And.intro hj5 hL5)
            clear k5 hj5 hL5 ho5 c0 c1
            go_wp2
            go_roundw
            case rel => exact ⟨i + 1, by omega, by omega, by go_num, Lib.hid ⟨B, j, v5, L5, u5, F, life, A5, rfl, rfl, H5.out.1, by have := HK.out.2.1; have := H5.out.2; omega, by have := HK.out.2.2.1; omega, by have := HK.out.2.2.2; omega⟩⟩
            case measure => simp [intOf]; omega
          · have q4' : (ki == 1) = false := by simp; exact q4
            by_cases q5 : ki = 2
            · subst q5
              go_wp2_with fail
              refine (js_force H4.out.2.1).mono ?_
              rintro e w5 ⟨rfl, hj5, ho5⟩
              have k5 : Whole w5 G 40 #[.int .i64 2, .slice ba bn bc, .int .i64 nn, .slice fa fn fc] := H4.out.1.keep (ho5.block G H4.out.1.lt (by
                obtain ⟨d1, d2, d3⟩ := dk_types H4.out.2.1.dk H4.out.1
                simp only [List.mem_cons, List.not_mem_nil, or_false, not_or]
                exact ⟨d1 (by decide), d2 (by decide), d3⟩))
              have H5 := Lib.hid (And.intro hj5 k5)
              have hsh : Short L := ⟨by have := HK.out.2.1; omega, fun l hl => by have := hj5.short l hl; omega⟩
              have HS := Lib.hid hsh
              clear k5 hj5 ho5 c0 c1 hsh
              go_wp2_with fail
              refine (jRecords_any H5.out.1.jr HS.out).mono ?_
              rintro e w6 ⟨g6, rfl, hp6, hb6⟩
              have c6 : w6.cell? ⟨G, 0, none⟩ = some (.int .i64 2) := (H5.out.2.below hb6 H5.out.2.lt).cell 0
              have H6 := Lib.hid (H5.out.1.step hb6)
              have hLm : L.length ≤ 40 := by have := HK.out.2.1; omega
              obtain ⟨N0, hN0⟩ : ∃ N0, L.length = N0 := ⟨_, rfl⟩
              have HN0 := Lib.hid hN0
              rw [hN0] at hLm H6 ⊢
              clear hp6 hb6 hN0
              go_wp2
              go_roundw
              case rel => exact ⟨i + 1, by omega, by omega, by go_num, Lib.hid ⟨B, j, v, L, u, N0, life, _, rfl, rfl, H6.out, by have := HK.out.2.1; omega, by have := HK.out.2.2.1; omega, by have := HK.out.2.1; have := HN0.out; omega⟩⟩
              case measure => simp [intOf]; omega
            · have q5' : (ki == 2) = false := by simp; exact q5
              by_cases q6 : ki = 4
              · subst q6
                have hsh : Short L := ⟨by have := HK.out.2.1; omega, fun l hl => by have := H4.out.2.1.short l hl; omega⟩
                have HS := Lib.hid hsh
                clear hsh
                go_wp2_with fail
                refine (jRecords_any H4.out.2.1.jr HS.out).mono ?_
                rintro e w5 ⟨g5, rfl, hp5, hb5⟩
                have k5 := H4.out.1.below hb5 H4.out.1.lt
                have c5 : w5.cell? ⟨G, 3, none⟩ = some (.slice fa fn fc) := k5.cell 3
                have hi5 : Its w5 (fun b => b ≠ p ∧ b ≠ bb ∧ b ≠ mb) fa fn c.f := (H4.out.2.2.2.1.keep hb5.size (fun b hb _ => hb5.block b hb)).weak (fun b _ hb => by have := HQ.out; omega)
                have H5 := Lib.hid (And.intro (H4.out.2.1.step hb5) (And.intro hp5 (And.intro hi5 (And.intro (show p < w4.heap.size ∧ bb < w4.heap.size ∧ mb < w4.heap.size from ⟨H4.out.2.1.dk.cells.lt, H4.out.2.1.dk.bytes.lt, H4.out.2.1.dk.map.lt⟩) hb5.size))))
                clear k5 hi5 hp5 hb5 c0 c1
                go_wp2_with fail
                refine (jLife_any H5.out.1.jr).mono ?_
                rintro e w6 ⟨rfl, rfl⟩
                go_wp2_with fail
                refine (crash_any H5.out.1.dk H5.out.1.up H5.out.2.2.1 H4.out.2.2.2.2).mono ?_
                rintro e w6 ⟨rfl, hd6, ho6⟩
                have H6 := Lib.hid (And.intro hd6 ho6)
                clear hd6 ho6 c5
                go_wp2_with fail
                refine (start_any H6.out.1).mono ?_
                rintro e w7 ⟨rfl, hd7, hg7, hs7⟩
                have ho7 : Only [p, bb, mb] w5 w7 := H6.out.2.trans (Only.of_grown hg7 (by simp))
                have hb7 : Below w.heap.size w w7 := ho7.aft H5.out.1.below (by have := HQ.out; intro x hx; simp at hx; omega)
                obtain ⟨KL, hK⟩ := js_crash (fs := c.f) H5.out.1 hd7 hb7
                obtain ⟨A7, hA7⟩ : ∃ A7, Dm.start (Dm.crash A c.f) = A7 := ⟨_, rfl⟩
                rw [hA7] at hK
                have hpA : Parts w7 (w4.heap.size ≤ ·) (some ⟨g5, 0, none⟩) L.length L := H5.out.2.1.keep ho7.size (fun b hb hs => ho7.block b hb (by have := H5.out.2.2.2.1; simp; omega))
                have H7 := Lib.hid (And.intro hK (And.intro hpA (show bb < w7.heap.size ∧ w4.heap.size ≤ w7.heap.size by have h1 := hK.dk.bytes.lt; have h2 := ho7.size; have h3 := H5.out.2.2.2.2; omega)))
                clear hd7 hg7 hs7 ho7 hb7 hK hA7 hpA
                go_wp2_with fail
                refine (open_any (fr := 3) (m := 50) H7.out.1.dk H7.out.1.up (by omega)).mono ?_
                rintro e w8 ⟨k, v8, rfl, hj8, hjs8, hb8⟩
                rw [H7.out.1.is.1] at hj8
                obtain ⟨T, hT⟩ : ∃ T, grt (bsOf A7 3 50) + 1 = T := ⟨_, rfl⟩
                obtain ⟨U, hU⟩ : ∃ U, (Jl.go (bsOf A7 3 50) (J0 0)).used = U := ⟨_, rfl⟩
                rw [hT, hU] at hj8
                have H8 : Hid (Js w8 w w7.heap.size k p bb mb v8 KL U KL.length T A7 ∧ Parts w8 (w4.heap.size ≤ ·) (some ⟨g5, 0, none⟩) L.length L ∧ life ≤ T ∧ T ≤ life + 1 ∧ F ≤ KL.length ∧ KL.length ≤ L.length ∧ KL = L.take KL.length) := Lib.hid ⟨⟨hj8, H7.out.1.dk.old hb8, H7.out.1.up, by have := H7.out.1.wal; rw [hT, hU] at this; exact this, H7.out.1.below.trans (hb8.mono H7.out.1.below.size), H7.out.1.short, by have h1 := HQ.out; have h2 := H7.out.2.2.1; have h3 := H7.out.1.below.size; exact ⟨by omega, by omega, by omega, by omega, by omega, by omega⟩, hb8.size⟩, H7.out.2.1.below hb8, by have := H7.out.1.is.2.2.2.2.1; omega, by have := H7.out.1.is.2.2.2.2.2; omega, H7.out.1.is.2.1, H7.out.1.is.2.2.1, H7.out.1.is.2.2.2.1⟩
                clear hj8 hjs8 hb8 hT hU
                have hshk : Short KL := ⟨by have h1 := HS.out.1; have h2 := H8.out.2.2.2.2.2.1; omega, fun l hl => by have := H8.out.1.short l hl; omega⟩
                have HSK := Lib.hid hshk
                clear hshk
                go_wp2_with fail
                refine (jRecords_any H8.out.1.jr HSK.out).mono ?_
                rintro e w9 ⟨g9, rfl, hp9, hb9⟩
                obtain ⟨N9, hN9⟩ : ∃ N9, KL.length = N9 := ⟨_, rfl⟩
                obtain ⟨N5, hN5⟩ : ∃ N5, L.length = N5 := ⟨_, rfl⟩
                have hpt := (H8.out.2.1.below hb9).take (k := KL.length) H8.out.2.2.2.2.2.1
                rw [← H8.out.2.2.2.2.2.2] at hpt
                have hNN : N9 ≤ N5 ∧ F ≤ N9 := by have := H8.out.2.2.2.2.2.1; have := H8.out.2.2.2.2.1; omega
                have hN40 : N5 ≤ 40 := by have := HK.out.2.1; omega
                have hT1 : life ≤ T ∧ 1 ≤ life := ⟨H8.out.2.2.1, H5.out.1.wal.lf⟩
                rw [hN9] at hp9 hpt ⊢
                rw [hN5]
                have H9 := Lib.hid (And.intro (H8.out.1.step hb9) (And.intro hp9 (And.intro hpt (And.intro hN9 hN5))))
                clear hp9 hb9 hpt hN9 hN5
                obtain ⟨hn1, hn2⟩ := hNN
                obtain ⟨ht1, ht2⟩ := hT1
                have r1 : ¬ (N9 : Int) < (F : Int) := by omega
                have r1' : decide (N9 < F) = false := by simp; omega
                have r2 : ¬ (N5 : Int) < (N9 : Int) := by omega
                have r2' : decide (N5 < N9) = false := by simp; omega
                have r3 : ¬ (T : Int) < (life : Int) := by omega
                have r3' : decide (T < life) = false := by simp; omega
                have r4 : ¬ (life : Int) < 1 := by omega
                go_wp2_with fail
                refine (jLife_any H9.out.1.jr).mono ?_
                rintro e w10 ⟨rfl, rfl⟩
                go_wp2_with fail
                refine (sameR_any H9.out.2.1 H9.out.2.2.1 (by omega)).mono ?_
                rintro e w11 ⟨rfl, qn, rfl⟩
                have H11 := Lib.hid (H9.out.1.step (w' := w9.drewN qn) ⟨rfl, rfl, rfl, Nat.le_refl _, fun _ _ => rfl⟩)
                obtain ⟨w11, hw11⟩ : ∃ w11, w9.drewN qn = w11 := ⟨_, rfl⟩
                rw [hw11] at H11 ⊢
                clear hw11 r1 r1' r2 r2' r3 r3' r4
                go_wp2
                go_roundw
                case rel => exact ⟨i + 1, by omega, by omega, by go_num, Lib.hid ⟨_, k, v8, KL, U, N9, T, A7, rfl, rfl, by have := H11.out; rw [H9.out.2.2.2.1] at this; exact this, by have h1 := H9.out.2.2.2.1; have h2 := H9.out.2.2.2.2; have h3 := HK.out.2.1; omega, by have h1 := H8.out.2.2.2.1; have h2 := HK.out.2.2.1; omega, by have h2 := H9.out.2.2.2.2; have h3 := HK.out.2.1; omega⟩⟩
                case measure => simp [intOf]; omega
              · have q6' : (ki != 4) = true := by simp; exact q6
                go_wp2
                go_roundw
                case rel => exact ⟨i + 1, by omega, by omega, by go_num, Lib.hid ⟨B, j, v, L, u, F, life, A, rfl, rfl, H4.out.2.1, by have := HK.out.2.1; omega, by have := HK.out.2.2.1; omega, by have := HK.out.2.2.2; omega⟩⟩
                case measure => simp [intOf]; omega
      · have q2' : ¬ (i : Int) < 40 := by omega
        go_wp2
        go_ret
        obtain ⟨B, j, v, L, u, F, life, A, rfl, rfl, hjs, _⟩ := HB.out
        exact ⟨rfl, hjs.below⟩
    · have q1' : ¬ (i : Int) < (cl : Int) := by omega
      go_wp2
      go_ret
      obtain ⟨B, j, v, L, u, F, life, A, rfl, rfl, hjs, _⟩ := HB.out
      exact ⟨rfl, hjs.below⟩
end Go.Proofs.Ytfecobkpdmjaeaa
