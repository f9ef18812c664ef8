/-
  The walk of the document's Crash.
-/
import Derived.Test.YtfecobkpdmjaeaaYc
import Derived.Deep.Cut
import Derived.Deep.CutRange
import Derived.Deep.CutBlock
namespace Go.Proofs.Ytfecobkpdmjaeaa
open Go.RowKit
set_option linter.unusedVariables false
set_option maxRecDepth 20000
set_option linter.unusedSimpArgs false
theorem put_nil (l : List Int) (o : Nat) : Dm.put l o [] = l := by simp [Dm.put]
theorem lay_len {a : Dm.A} {n : Nat} (h : Dm.Ok a n) (i : Nat) (fs : List Int) : (Dm.layAll a.last ((a.fresh.take i).zip fs)).length = 64 * n := by
  have hf : Dm.Fok (a.fresh.take i) n := ⟨fun x hx => h.fok.1 x (List.mem_of_mem_take hx), by rw [List.map_take]; exact h.fok.2.sublist (List.take_sublist _ _)⟩
  obtain ⟨z1, z2⟩ := Dm.zip_ok hf fs
  exact (Dm.lay_get _ _ h.len z1 z2).1
structure Rp (w w' : World) (B r : Nat) (vL vN vD : Value) (a : Dm.A) (n : Nat) (l : List Int) : Prop where
  cells : Whole w' r 56 #[vL, vN, vD, .bool false]
  last : w'.ownsRow B 45 64 vL n (nums l)
  now : w'.ownsRow B 45 64 vN n (nums (Dm.now a))
  dirty : w'.ownsRow B 3 1 vD (keys a.fresh).length (ints (keys a.fresh))
  rf : RF B w w'
  size : B ≤ w'.heap.size
theorem zip_take_all {f : Dm.F} {g : List Int} {i : Nat} (h : g.length ≤ i) : (f.take i).zip g = f.zip g := by
  induction f generalizing g i with
  | nil => simp
  | cons x r ih =>
    cases g with
    | nil => simp
    | cons y s =>
      cases i with
      | zero => simp at h
      | succ j => simp at h; simp [ih h]
theorem put_step {cur : List Value} {l b : List Int} {n o k : Nat} {y : Int} (hc : cur.take (n * 64) = nums (Dm.put l o (b.take k))) (hl : l.length = 64 * n) (ho : o + 64 ≤ 64 * n) (hb : b.length = 64) (hk : k < 64) (hy : b[k]? = some y) (hs : n * 64 ≤ cur.length) :
    (cur.set (o + k) (.int .u8 y)).take (n * 64) = nums (Dm.put l o (b.take (k + 1))) := by
  have e1 : (b.take k).length = k := by simp; omega
  have e2 : (b.take (k + 1)).length = k + 1 := by simp; omega
  apply List.ext_getElem?
  intro i
  have hl2 : (Dm.put l o (b.take (k + 1))).length = 64 * n := by rw [Dm.put_len (by omega)]; exact hl
  by_cases hi : i < n * 64
  · rw [List.getElem?_take, if_pos hi, List.getElem?_set]
    unfold nums
    rw [List.getElem?_map, Dm.put_get (by omega), e2]
    have e : cur[i]? = ((Dm.put l o (b.take k))[i]?).map (Value.int .u8) := by
      have := congrArg (·[i]?) hc
      simp only [List.getElem?_take, if_pos hi] at this
      rw [this]; unfold nums; rw [List.getElem?_map]
    by_cases h1 : o + k = i
    · rw [if_pos h1, if_pos (by omega), if_pos (by omega), List.getElem?_take, if_pos (by omega), show i - o = k by omega, hy]
      rfl
    · rw [if_neg h1, e, Dm.put_get (by omega), e1]
      by_cases h2 : o ≤ i ∧ i < o + k
      · rw [if_pos h2, if_pos (by omega), List.getElem?_take, List.getElem?_take, if_pos (by omega), if_pos (by omega)]
      · rw [if_neg h2, if_neg (by omega)]
  · rw [List.getElem?_take, if_neg hi, List.getElem?_eq_none (by rw [nums_len]; omega)]
set_option maxHeartbeats 8000000 in
theorem rcrash_any {w : World} {B r n fl fc : Nat} {fa : Option Addr} {fs : List Int} {vL vN vD : Value} {a : Dm.A} (h : Rk w B r vL vN vD a n) (hd : a.down = false) (hB : B ≤ w.heap.size) (hf : Its w (· < B) fa fl fs) (hfl : fl ≤ maxLen) :
    Calls Try.prog 20 #[.pointer (some ⟨r, 0, none⟩), .slice fa fl fc] w fun e w' => e = .returned (.tuple #[]) ∧ (∃ vL' vN' vD', Rk w' B r vL' vN' vD' (Dm.crash a fs) n) ∧ RF B w w' := by
  unfold maxLen at hfl
  have c3 : w.cell? ⟨r, 3, none⟩ = some (.bool false) := by rw [h.c3, hd]
  have H := Lib.hid h
  have H0 : Hid (Rp w w B r vL vN vD a n (Dm.layAll a.last ((a.fresh.take 0).zip fs))) := Lib.hid ⟨by have := h.cells; rw [hd] at this; exact this, h.last, h.now, h.dirty, RF.refl _ _, hB⟩
  have HFS := Lib.hid hf
  have HD := Lib.hid hd
  obtain ⟨K, hK⟩ : ∃ K, (keys a.fresh).length = K := ⟨_, rfl⟩
  have hKf : K = a.fresh.length := by rw [← hK]; simp [keys]
  have hKm : K ≤ 4096 := by have h1 := h.ok.fok.size; have h2 := h.ok.small; omega
  have HK := Lib.hid (And.intro hK hKf)
  obtain ⟨da, dc, hvD, _⟩ := own_formR h.dirty
  rw [hK] at hvD
  have HVD := Lib.hid hvD
  clear h hd hf hK hKf hvD hB
  go_enter Try.func20, Try.ntmps20
  go_upto_block 0 with (fail)
  clear c3
  go_cut [4] from 11 to 61 (fun _ wr => Hid (Rp w wr B r vL vN vD a n (Dm.layAll a.last (a.fresh.zip fs))))
  case first =>
    go_wp2
    go_loopw [4] (fun v wr => ∃ i : Nat, i ≤ K ∧ v = .int .i64 (i : Int) ∧ Hid (Rp w wr B r vL vN vD a n (Dm.layAll a.last ((a.fresh.take i).zip fs)))) (fun v _ => K - (intOf v).toNat)
    case atStart => exact ⟨0, Nat.zero_le _, rfl, H0⟩
    case round =>
      clear H0
      obtain ⟨i, hi, rfl, HB⟩ := hrel
      have c2 : wr.cell? ⟨r, 2, none⟩ = some (.slice da K dc) := by rw [← HVD.out]; exact HB.out.cells.cell 2
      by_cases q1 : i < K
      · have q1' : (i : Int) < (K : Int) := by omega
        by_cases q2 : i < fl
        · have q2' : (i : Int) < (fl : Int) := by omega
          obtain ⟨x, hx⟩ : ∃ x, a.fresh[i]? = some x := ⟨_, List.getElem?_eq_getElem (by have := HK.out.2; omega)⟩
          obtain ⟨m, b⟩ := x
          obtain ⟨z, hz⟩ : ∃ z, fs[i]? = some z := ⟨_, List.getElem?_eq_getElem (by rw [HFS.out.1]; exact q2)⟩
          have hmem := H.out.ok.fok.1 _ (List.mem_of_getElem? hx)
          have hblk : Dm.blk (Dm.now a) m = b := by rw [(Dm.now_get H.out.ok).2.2]; unfold Dm.read; rw [Dm.look_of_get H.out.ok.fok hx]; rfl
          have hll := lay_len H.out.ok i fs
          obtain ⟨l, hl⟩ : ∃ l, Dm.layAll a.last ((a.fresh.take i).zip fs) = l := ⟨_, rfl⟩
          rw [hl] at HB hll
          have HX := Lib.hid (And.intro hx (And.intro hz (And.intro hmem (And.intro hblk (And.intro hll hl)))))
          have hdg : ∃ g, da = some ⟨g, 0, none⟩ ∧ wr.cell? ⟨g, i, none⟩ = some (.int .i64 (m : Int)) := by
            obtain ⟨g, c, cu, hv, _, hw, _, ht, _⟩ := own_at HB.out.dirty (by have := HK.out.1; omega)
            rw [HVD.out] at hv
            injection hv with hv1
            refine ⟨g, hv1, (hw.cell i).trans ?_⟩
            have := congrArg (·[i]?) ht
            simp only [List.getElem?_take] at this
            rw [if_pos (by have := HK.out.1; omega), Array.getElem?_toList] at this
            rw [this]
            simp [ints, keys, hx]
          obtain ⟨g, hg, cg⟩ := hdg
          obtain ⟨fb, fo, hfa, hfB, _, hfc⟩ := HFS.out.2.resolve_left (by omega)
          have hfz : fs.getD i 0 = z := by simp [hz]
          have HFC : Hid (∀ wr, RF B w wr → wr.cell? ⟨fb, fo + i, none⟩ = some (.int .i64 z)) := Lib.hid (fun wr hrf => by
            have h1 := hfc i q2
            rw [hfz] at h1
            exact (World.cell?_of_block (w := w) (hrf.block fb (World.block_lt_of_cell? w _ h1) (Or.inl hfB))).trans h1)
          have hmn : (m : Int) < (n : Int) := by have := hmem.1; omega
          rw [hg] at c2
          have HG := Lib.hid hg
          have H1 : Hid (Rp w wr B r vL vN vD a n (Dm.put l (64 * m) (b.take 0))) := Lib.hid (by rw [List.take_zero, put_nil]; exact HB.out)
          subst hfa
          clear hx hz hmem hblk hll hl hg hfB hfc hfz HB
          go_wp2
          go_loopw [6] (fun v wr => ∃ k : Nat, k ≤ Dm.many z ∧ v = .int .i64 (k : Int) ∧ Hid (Rp w wr B r vL vN vD a n (Dm.put l (64 * m) (b.take k)))) (fun v _ => 64 - (intOf v).toNat)
          case atStart => exact ⟨0, Nat.zero_le _, rfl, H1⟩
          case round =>
            clear H1 cg c2
            obtain ⟨k, hk, rfl, HY⟩ := hrel
            have hmz := Dm.many_le z
            have cf := HFC.out _ HY.out.rf
            by_cases q3 : k < Dm.many z
            · have q4 : (k : Int) < 64 := by omega
              have q5 : (k : Int) < z := by unfold Dm.many at q3; omega
              have hmn' := HX.out.2.2.1.1
              obtain ⟨y, hy⟩ : ∃ y, b[k]? = some y := ⟨_, List.getElem?_eq_getElem (by rw [HX.out.2.2.1.2.1]; omega)⟩
              obtain ⟨lb, lc, cu, hvL, hlbB, hlw, hls, hlt, hl1, hl2, hl3⟩ := own_at HY.out.last (by omega)
              obtain ⟨nb, nc, cv, hvN, hnbB, hnw, hns, hnt, _⟩ := own_at HY.out.now (by omega)
              have c0 : wr.cell? ⟨r, 0, none⟩ = some (.slice (some ⟨lb, 0, none⟩) n lc) := by rw [← hvL]; exact HY.out.cells.cell 0
              have c1 : wr.cell? ⟨r, 1, none⟩ = some (.slice (some ⟨nb, 0, none⟩) n nc) := by rw [← hvN]; exact HY.out.cells.cell 1
              have cn : wr.cell? ⟨nb, m * 64 + k, none⟩ = some (.int .u8 y) := by
                rw [hnw.cell]
                have := congrArg (·[m * 64 + k]?) hnt
                simp only [List.getElem?_take] at this
                rw [if_pos (by omega), Array.getElem?_toList] at this
                rw [this]
                have h2 := hy
                rw [← HX.out.2.2.2.1, Dm.blk_get, if_pos (by omega), Nat.mul_comm] at h2
                simp [nums, h2]
              obtain ⟨old, hold⟩ : ∃ old, wr.cell? ⟨lb, m * 64 + k, none⟩ = some old := ⟨_, (hlw.cell _).trans (Array.getElem?_eq_getElem (by omega))⟩
              have fl' : wr.frozen? ⟨lb, m * 64 + k, none⟩ = false := hlw.frozen _
              have hg9 : wr.grownBy (wr.drew.setCell ⟨lb, m * 64 + k, none⟩ (.int .u8 y)) (some lb) := by have h := grown_cell wr.drew lb (m * 64 + k) (.int .u8 y); exact ⟨h.os, h.tape, h.output, h.size, h.block⟩
              have hne : ∀ g, vL.ownBlock = some g → vN.ownBlock ≠ some g := H.out.apart
              have hwc : Whole (wr.drew.setCell ⟨lb, m * 64 + k, none⟩ (.int .u8 y)) lb 45 (cu.setIfInBounds (m * 64 + k) (.int .u8 y)) := Whole.set (w := wr.drew) hlw (m * 64 + k) (.int .u8 y)
              have hfar : ∀ (g : Nat) (t : TypeId) (c : Array Value), wr.heap[g]? = some (.cells c t (0, 0)) → t ≠ 45 → (wr.drew.setCell ⟨lb, m * 64 + k, none⟩ (.int .u8 y)).heap[g]? = wr.heap[g]? := fun g t c hgc ht => hg9.block g (Array.getElem?_eq_some_iff.1 hgc).1 (fun e => by
                cases e
                have h2 := hlw
                unfold Whole at h2
                rw [h2] at hgc
                injection hgc with h3
                injection h3 with _ h4
                exact ht h4.symm)
              have HN : Hid (Rp w (wr.drew.setCell ⟨lb, m * 64 + k, none⟩ (.int .u8 y)) B r vL vN vD a n (Dm.put l (64 * m) (b.take (k + 1)))) := Lib.hid (by
                refine ⟨HY.out.cells.keep (hfar _ _ _ HY.out.cells (by decide)), ?_, ?_, own_keep HY.out.dirty (fun g c hgc => hfar g _ c hgc (by decide)), HY.out.rf.trans (RF.of_grown hg9 hlbB hlw (Or.inr rfl)), by have := hg9.size; have := HY.out.size; omega⟩
                · refine ⟨by rw [nums_len, Dm.put_len (by have := HX.out.2.2.2.2.1; have := HX.out.2.2.1.2.1; simp; omega), HX.out.2.2.2.2.1]; omega, Or.inr ⟨lb, lc, _, hvL, hlbB, hwc, hl1, hl2, by simp; exact hl3, ?_⟩⟩
                  have := put_step (cur := cu.toList) (y := y) hlt HX.out.2.2.2.2.1 (by omega) HX.out.2.2.1.2.1 (by omega) hy (by simpa using hls)
                  rw [Nat.mul_comm 64 m] at this ⊢
                  simpa using this
                · rcases HY.out.now.2 with h0 | ⟨g, cap, c, hv, h2, h3, hr⟩
                  · exact ⟨HY.out.now.1, Or.inl h0⟩
                  · refine ⟨HY.out.now.1, Or.inr ⟨g, cap, c, hv, h2, (hg9.block g (Array.getElem?_eq_some_iff.1 h3).1 (fun e => ?_)).trans h3, hr⟩⟩
                    cases e
                    exact hne lb (by rw [hvL]; rfl) (by rw [hv]; rfl))
              clear hvL hlbB hlw hls hlt hl1 hl2 hl3 hvN hnbB hnw hns hnt hg9 hne hwc hfar hy
              have q6 : m < n := hmn'
              have q7 : k < 64 := by omega
              clear hmn'
              go_wp2
              go_still_tail 17, (by kernel_rfl)
              change wpList _ _ _ _ _ wr.drew
              go_wp2
              go_roundw
              case rel => exact ⟨k + 1, by omega, by go_num, HN⟩
              case measure => simp [intOf]; omega
            · by_cases q4 : k = 64
              · have q5 : ¬ ((k : Int) < 64) := by omega
                have hkz : k = Dm.many z := by omega
                subst hkz
                go_wp2
                go_roundw
                case rel => exact ⟨i + 1, by omega, by go_num, Lib.hid (by rw [Dm.zip_take_succ HX.out.1 HX.out.2.1, Dm.layAll_snoc, HX.out.2.2.2.2.2]; exact HY.out)⟩
                case measure => simp [intOf]; omega
              · have q5 : (k : Int) < 64 := by omega
                have q6 : ¬ ((k : Int) < z) := by unfold Dm.many at q3; omega
                have hkz : k = Dm.many z := by omega
                subst hkz
                go_wp2
                go_roundw
                case rel => exact ⟨i + 1, by omega, by go_num, Lib.hid (by rw [Dm.zip_take_succ HX.out.1 HX.out.2.1, Dm.layAll_snoc, HX.out.2.2.2.2.2]; exact HY.out)⟩
                case measure => simp [intOf]; omega
        · have q2' : ¬ ((i : Int) < (fl : Int)) := by omega
          have he : Hid (Dm.layAll a.last ((a.fresh.take i).zip fs) = Dm.layAll a.last (a.fresh.zip fs)) := Lib.hid (by rw [zip_take_all (by have := HFS.out.1; omega)])
          go_wp2
          go_meet
          case rel => rw [← he.out]; exact HB
      · have q1' : ¬ ((i : Int) < (K : Int)) := by omega
        have he : Hid (Dm.layAll a.last ((a.fresh.take i).zip fs) = Dm.layAll a.last (a.fresh.zip fs)) := Lib.hid (by rw [List.take_of_length_le (by have := HK.out.2; omega)])
        go_wp2
        go_meet
        case rel => rw [← he.out]; exact HB
  case rest =>
  have HR := Lib.hid hcut.out
  clear hcut H0
  obtain ⟨l, hl⟩ : ∃ l, Dm.layAll a.last (a.fresh.zip fs) = l := ⟨_, rfl⟩
  rw [hl] at HR
  have h := HR.out
  have hn := H.out.ok.small
  have hb0 : Below wc.heap.size wc (wc.alloc (.cells #[] 45)) := (Below.refl _ _).alloc (Nat.le_refl _) _
  have c0 : (wc.alloc (.cells #[] 45)).cell? ⟨r, 0, none⟩ = some vL := (World.cell?_of_block (w := wc) (hb0.block r h.cells.lt)).trans (h.cells.cell 0)
  obtain ⟨v1, w1, hrun, hown1, hb1, hg1⟩ := run_append_rows wc B n 54 vL (nums l) (nums_one _) h.last (by omega) h.size
  obtain ⟨na, nc, hv1, _⟩ := own_formR hown1
  obtain ⟨la, lc, hvL, _⟩ := own_formR h.last
  subst hv1
  have hc1 : Whole w1 r 56 #[vL, vN, vD, .bool false] := h.cells.keep (hb1.block r h.cells.lt)
  obtain ⟨x1, hx1⟩ : ∃ x1, w1.cell? ⟨r, 1, none⟩ = some x1 := ⟨vN, hc1.cell 1⟩
  have f1 : w1.frozen? ⟨r, 1, none⟩ = false := hc1.frozen 1
  have hc2 : Whole (w1.setCell ⟨r, 1, none⟩ (.slice na n nc)) r 56 #[vL, .slice na n nc, vD, .bool false] := hc1.set 1 _
  have hg2 := grown_cell w1 r 1 (.slice na n nc)
  obtain ⟨w2, h2⟩ : ∃ w2, w1.setCell ⟨r, 1, none⟩ (.slice na n nc) = w2 := ⟨_, rfl⟩
  rw [h2] at hc2 hg2
  obtain ⟨x2, hx2⟩ : ∃ x2, w2.cell? ⟨r, 2, none⟩ = some x2 := ⟨vD, hc2.cell 2⟩
  have f2 : w2.frozen? ⟨r, 2, none⟩ = false := hc2.frozen 2
  have hc3 : Whole (w2.setCell ⟨r, 2, none⟩ (.slice none 0 0)) r 56 #[vL, .slice na n nc, .slice none 0 0, .bool false] := hc2.set 2 _
  have hg3 := grown_cell w2 r 2 (.slice none 0 0)
  obtain ⟨w3, h3⟩ : ∃ w3, w2.setCell ⟨r, 2, none⟩ (.slice none 0 0) = w3 := ⟨_, rfl⟩
  rw [h3] at hc3 hg3
  have hx3 : w3.cell? ⟨r, 3, none⟩ = some (.bool false) := hc3.cell 3
  have f3 : w3.frozen? ⟨r, 3, none⟩ = false := hc3.frozen 3
  have hc4 : Whole (w3.setCell ⟨r, 3, none⟩ (.bool true)) r 56 #[vL, .slice na n nc, .slice none 0 0, .bool true] := hc3.set 3 _
  have hg4 := grown_cell w3 r 3 (.bool true)
  have hl4 := rk_far (g := 0) hc3 hg4 (rk_far (g := 0) hc2 hg3 (rk_far (g := 0) hc1 hg2 (own_below h.last hb1) (by decide)) (by decide)) (by decide)
  have hn4 := rk_far (g := 0) hc3 hg4 (rk_far (g := 0) hc2 hg3 (rk_far (g := 0) hc1 hg2 hown1 (by decide)) (by decide)) (by decide)
  have HF : Hid ((∃ vL' vN' vD', Rk (w3.setCell ⟨r, 3, none⟩ (.bool true)) B r vL' vN' vD' (Dm.crash a fs) n) ∧ RF B w (w3.setCell ⟨r, 3, none⟩ (.bool true))) := Lib.hid (by
    have hcl : (Dm.crash a fs).last = l := hl
    have hcn : Dm.now (Dm.crash a fs) = l := by rw [Dm.now_done rfl]; exact hl
    refine ⟨⟨_, _, _, hc4, by rw [hcl]; exact hl4, by rw [hcn]; exact hn4, ⟨rfl, Or.inl ⟨rfl, rfl⟩⟩, ?_, H.out.base, Dm.crash_ok H.out.ok fs⟩, (((h.rf.trans (RF.of_below hb1)).trans (RF.of_grown hg2 H.out.base hc1 (Or.inl rfl))).trans (RF.of_grown hg3 H.out.base hc2 (Or.inl rfl))).trans (RF.of_grown hg4 H.out.base hc3 (Or.inl rfl))⟩
    intro g e1 e2
    have h3 := hg1 g e2
    obtain ⟨cu, h4, _⟩ := own_block h.last e1
    have := (Array.getElem?_eq_some_iff.1 h4).1
    omega)
  have HRUN := Lib.hid hrun
  have H2 := Lib.hid h2
  have H3 := Lib.hid h3
  rw [hvL] at c0
  have HVL := Lib.hid hvL
  clear h hn hb0 hrun hown1 hb1 hg1 hvL hc1 hc2 hg2 hc3 hg3 hc4 hg4 hl4 hn4 h2 h3 hl HR HVD HK
  go_upto_region 10 with (first | (at_builtin; refine wpList_append_run rfl (.tmp 63) (.tmp 67) 54 54 rfl rfl (.slice (some ⟨wc.heap.size, 0, none⟩) 0 0) (.slice la n lc) (.slice na n nc) w1 rfl rfl (by have := HRUN.out; rw [HVL.out] at this; exact this) ?_) | fail)
  rw [H2.out]
  go_upto_region 11 with (fail)
  rw [H3.out]
  go_wp2
  go_end0
  exact ⟨rfl, HF.out⟩
end Go.Proofs.Ytfecobkpdmjaeaa
