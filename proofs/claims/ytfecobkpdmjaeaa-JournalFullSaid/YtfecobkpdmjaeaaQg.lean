/-
  The walk of whole.
-/
import Derived.Test.YtfecobkpdmjaeaaQf
import Derived.Deep.MidRow
import Derived.Deep.LoopGhost
namespace Go.Proofs.Ytfecobkpdmjaeaa
open Go.RowKit
set_option linter.unusedVariables false
set_option linter.unusedSimpArgs false
set_option maxRecDepth 20000
theorem wpList_load_midG {P : Program} {ops : Array Oper} {rest : List Oper} {op : Oper} {a : Act} {w : World} {Q : Exit → Act → World → Prop} (hgd : Region.wanted op (yielded ops a.tmps) = true) (ty : TypeId) (x : Operand) (ho : op.op = .load ty x)
    (b o : Nat) (hx : a.eval x = .pointer (some ⟨b, o, none⟩)) (cs : List Value) (d : TypeDesc) (hc : w.rangeAt b o cs)
    (hu : P.underlying ty = some d) (hd : d.isRow = true) (hi : (P.info? ty).map (·.size) = some cs.length)
    (h : wpList P ops Q rest (a.put op.dst (.agg cs.toArray)) w) : wpList P ops Q (op :: rest) a w :=
  wpList_step fun _ hK => by rw [if_pos hgd]; exact wp_load_mid ty x ho b o hx cs d hc hu hd hi (hK _ _ h)
/-- Where reading is. -/
structure At (bs : List (List Int)) (s : Jl.S) (last : Bool) (rec : List Int) (s0 : Jl.S) : Prop where
  thru : Jl.thru (bs.take s.pos) (J0 0) = some s
  len : rec.length ≤ 44 * s.pos
  no : last = false → rec = s.part ∧ s.recs = s0.recs ∧ s.used = s0.pos ∧ (s0.pos < s.pos ↔ s.part ≠ [])
  yes : last = true → s.part = [] ∧ s.recs = s0.recs ++ [rec] ∧ s.used = s.pos
theorem At.next {bs : List (List Int)} {s s0 : Jl.S} {rec b : List Int} (h : At bs s false rec s0) (hp : s0.pos ≤ s.pos) (hk : s.pos < bs.length) (hb : bs.getD s.pos [] = b) (hbk : Blk b) (hg : Jl.good s b) :
    At bs (Jl.step s b) (decide (Jl.byt b 10 = 1)) (rec ++ Jl.body b) s0 ∧ (Jl.step s b).pos = s.pos + 1 ∧ (Jl.step s b).least = hd b ∧ hd b ≤ 1099511627776 ∧ Jl.cnt b ≤ 44 := by
  have hsome := Jl.body_some hg hbk.1
  have hc : Jl.cnt b ≤ 44 := by have := hg.2.2.2.2.1; omega
  have hl : (Jl.body b).length ≤ 44 := by unfold Jl.body; rw [List.length_take]; omega
  have hh : Jl.lf b 0 = hd b ∧ hd b ≤ 1099511627776 := by
    have h1 := hg.1
    rw [lf_hd] at h1 ⊢
    unfold cap at h1 ⊢
    split at h1
    · rename_i h2; rw [if_pos h2]; exact ⟨rfl, h2⟩
    · omega
  obtain ⟨n1, n2, n3, n4⟩ := h.no rfl
  have hpos : (Jl.step s b).pos = s.pos + 1 := by unfold Jl.step; split <;> rfl
  have hle : (Jl.step s b).least = hd b := by rw [← hh.1]; unfold Jl.step; split <;> rfl
  have hth := thru_step h.thru hk (by rw [hb]; exact hg)
  rw [hb] at hth
  refine ⟨⟨by rw [hpos]; exact hth, by rw [hpos, List.length_append]; have := h.len; omega, fun hf => ?_, fun hf => ?_⟩, hpos, hle, hh.2, hc⟩
  · have h1 : ¬ Jl.byt b 10 = 1 := of_decide_eq_false hf
    unfold Jl.step
    rw [if_neg h1]
    exact ⟨by rw [n1], n2, n3, ⟨fun _ e => hsome (List.append_eq_nil_iff.1 e).2, fun _ => by show s0.pos < s.pos + 1; omega⟩⟩
  · have h1 : Jl.byt b 10 = 1 := of_decide_eq_true hf
    unfold Jl.step
    rw [if_pos h1]
    exact ⟨rfl, by rw [n1, n2], rfl⟩
theorem row_lt {w : World} {B g : Nat} {v : Value} {l : List Int} (h : RowU w B v l) (hg : v.ownBlock = some g) : B ≤ g := (row_block h.1 hg).choose_spec.1
theorem grown_type {w w' : World} {B g : Nat} {v : Value} {l : List Int} {t : TypeId} {cs : Array Value} (hw : Whole w g t cs) (h : RowU w B v l) (hg : w.grownBy w' v.ownBlock) (ht : t ≠ 5) : Whole w' g t cs :=
  hw.grown hg (fun e => by
    obtain ⟨cur2, _, hc2⟩ := row_block h.1 e.symm
    unfold Whole at hw
    rw [hw] at hc2
    injection hc2 with hc2
    injection hc2 with _ h4
    exact ht h4)
theorem RowU.app {w w' : World} {B cb : Nat} {v v' : Value} {l m : List Int} (h : RowU w B v l) (ho : w'.ownsRow B 5 1 v' (l.length + cb) (nums l ++ nums m)) (hm : m.length = cb) (hb : Byt m) : RowU w' B v' (l ++ m) :=
  ⟨by rw [List.length_append, hm, nums_append]; exact ho, byt_append h.2 hb⟩
set_option maxHeartbeats 8000000 in
theorem whole_any {g n : Nat} {bs : List (List Int)} {w : World} (h : Whole w g 80 (nums bs.flatten).toArray) (hA : Alls bs) (hm : bs.length = n) (hml : n ≤ 4096) :
    Calls Try.prog 35 #[.slice (some ⟨g, 0, none⟩) n n] w fun e w' => ∃ v, e = .returned (.tuple #[v, .int .i64 (((Jl.go bs (J0 0)).used : Nat) : Int)]) ∧ Recs w' w.heap.size v (Jl.go bs (J0 0)).recs ∧ Below w.heap.size w w' := by
  have H0 : Hid (Jl.thru (bs.take 0) (J0 0) = some (J0 0) ∧ Recs w w.heap.size (.slice none 0 0) (J0 0).recs ∧ Below w.heap.size w w) := Lib.hid ⟨rfl, Recs.nil _ _, Below.refl _ _⟩
  have HL := Lib.hid (And.intro hA (And.intro hm h))
  have HG : Hid (g < w.heap.size) := Lib.hid h.lt
  clear h hA hm
  go_enter Try.func35, Try.ntmps35
  go_wp2
  go_step3
  go_wp2
  go_step3
  go_wp2
  go_loopw [2, 3, 4] (fun vR vU vA wr => ∃ s : Jl.S, s.part = [] ∧ s.used = s.pos ∧ s.recs.length ≤ s.pos ∧ s.pos ≤ n ∧ s.least ≤ 1099511627776 ∧ vU = .int .i64 (s.pos : Int) ∧ vA = .int .u64 (s.least : Int) ∧ Hid (Jl.thru (bs.take s.pos) (J0 0) = some s ∧ Recs wr w.heap.size vR s.recs ∧ Below w.heap.size w wr)) (fun _ vU _ _ => n - (intOf vU).toNat)
  case atStart => exact ⟨J0 0, rfl, rfl, Nat.zero_le _, Nat.zero_le _, Nat.zero_le _, rfl, rfl, H0⟩
  case round =>
    clear H0
    obtain ⟨wo, hwo⟩ : ∃ wo, wo = wr := ⟨_, rfl⟩
    subst hwo
    obtain ⟨s0, hp0, hu0, hrn0, hn0, hl0, rfl, rfl, HB⟩ := hrel
    obtain ⟨P0, hP0⟩ : ∃ P0, s0.pos = P0 := ⟨_, rfl⟩
    obtain ⟨L0, hL0⟩ : ∃ L0, s0.least = L0 := ⟨_, rfl⟩
    have HP := Lib.hid (And.intro hP0 (And.intro hp0 (And.intro hu0 hL0)))
    have HRN := Lib.hid hrn0
    rw [hP0] at hn0 ⊢
    rw [hL0] at hl0 ⊢
    clear hp0 hu0 hP0 hL0 hrn0
    by_cases hlt : P0 < n
    · have q1 : (P0 : Int) < (n : Int) := by omega
      have H1 : Hid (At bs s0 false [] s0 ∧ RowU wo wo.heap.size (.slice none 0 0) [] ∧ Below wo.heap.size wo wo) := Lib.hid ⟨⟨by exact HB.out.1, by simp, fun _ => ⟨HP.out.2.1.symm, rfl, HP.out.2.2.1, by simp [HP.out.2.1]⟩, fun h => by cases h⟩, RowU.nil _ _, Below.refl _ _⟩
      go_wp2
      go_loopw [4, 5, 6, 7] (fun vA vX vI vL w2 => ∃ (s : Jl.S) (last : Bool) (rec : List Int), s.pos ≤ n ∧ P0 ≤ s.pos ∧ s.least ≤ 1099511627776 ∧ vA = .int .u64 (s.least : Int) ∧ vI = .int .i64 (s.pos : Int) ∧ vL = .bool last ∧ (last = true → P0 < s.pos) ∧ Hid (At bs s last rec s0 ∧ RowU w2 wo.heap.size vX rec ∧ Below wo.heap.size wo w2)) (fun _ _ vI _ _ => n - (intOf vI).toNat)
      case atStart => exact ⟨s0, false, [], by have := HP.out.1; omega, by have := HP.out.1; omega, by have := HP.out.2.2.2; omega, by rw [HP.out.2.2.2], by rw [HP.out.1], rfl, (fun h => by cases h), H1⟩
      case round =>
        clear H1
        obtain ⟨s, last, rec, hn, hPs, hls, rfl, rfl, rfl, hlp, H2⟩ := hrel
        obtain ⟨Pn, hPn⟩ : ∃ Pn, s.pos = Pn := ⟨_, rfl⟩
        obtain ⟨L, hL⟩ : ∃ L, s.least = L := ⟨_, rfl⟩
        rw [hPn] at hn hPs hlp ⊢
        rw [hL] at hls ⊢
        have HS := Lib.hid (And.intro hPn hL)
        clear hPn hL
        cases last with
        | true =>
          have hlt2 : P0 < Pn := hlp rfl
          clear hlp
          obtain ⟨ra, rc, rfl, hrc, hrt⟩ := H2.out.2.1.form
          obtain ⟨vs, hv1, hv2⟩ := HB.out.2.1
          have hv1' := own_below hv1 H2.out.2.2
          have hv2' : ∀ (k : Nat) (l : List Int), s0.recs[k]? = some l → ∃ u, vs[k]? = some u ∧ RowU (wr.alloc (.cells #[.slice ra rec.length rc] 37)) w.heap.size u l := fun k l hl => by
            obtain ⟨u, hu, hr⟩ := hv2 k l hl
            exact ⟨u, hu, (hr.below H2.out.2.2).below (below_alloc _ _)⟩
          have hr9 : RowU (wr.alloc (.cells #[.slice ra rec.length rc] 37)) w.heap.size (.slice ra rec.length rc) rec := (H2.out.2.1.below (below_alloc _ _)).base HB.out.2.2.size
          have hv3 := own_below hv1' (below_alloc wr (.cells #[.slice ra rec.length rc] 37))
          have hbl := HB.out.2.2.trans (H2.out.2.2.mono HB.out.2.2.size)
          have hb9 : Below w.heap.size w (wr.alloc (.cells #[.slice ra rec.length rc] 37)) := hbl.alloc (hbl.size) _
          have hL0 : s0.recs.length ≤ 4096 := by have := HRN.out; have := HP.out.1; omega
          have H9 := Lib.hid (And.intro hv2' (And.intro hr9 (And.intro hv3 (And.intro hb9 hL0))))
          have hws : w.heap.size ≤ (wr.alloc (.cells #[.slice ra rec.length rc] 37)).heap.size := hb9.size
          clear hv1 hv2 hv1' hv2' hr9 hv3 hbl hb9 hrc hrt hL0
          go_wp2_with (first | (at_builtin; refine wpList_append_one rfl (.tmp 46) (.tmp 48) 48 37 (.slice none 0 0) 24 rfl Try.underlying48 sl_info rfl (by omega) w.heap.size u2 s0.recs.length vs rfl H9.out.2.2.1 wr.heap.size 37 (.slice ra rec.length rc) rfl (Whole.new _ _ _) rfl (by have := H9.out.2.2.2.2; omega) hws ?_; intro v10 w10 ho10 hg10 _) | fail)
          go_roundw
          case rel =>
            obtain ⟨y1, y2, y3⟩ := H2.out.1.yes rfl
            have hps := HS.out.1
            refine ⟨s, y1, y3, by rw [y2, List.length_append, List.length_singleton]; have := HRN.out; have := HP.out.1; omega, by omega, by rw [HS.out.2]; exact hls, by rw [HS.out.1], by rw [HS.out.2], Lib.hid ⟨H2.out.1.thru, ?_, below_own H9.out.2.2.2.1 hws hg10 (fun q hq => (row_block H9.out.2.2.1 hq).choose_spec.1)⟩⟩
            rw [y2]
            exact Recs.more H9.out.1 H9.out.2.2.1 H9.out.2.1 ho10 hg10
          case measure => simp [intOf]; omega
        | false =>
          clear hlp
          by_cases hend : Pn < n
          · have q2 : ((Pn : Int) == (n : Int)) = false := by simp; omega
            obtain ⟨b, hb⟩ : ∃ b, bs.getD Pn [] = b := ⟨_, rfl⟩
            have hbk : Blk b := by rw [← hb]; exact blk_get' HL.out.1 (by have := HL.out.2.1; omega)
            have hbl := HB.out.2.2.trans (H2.out.2.2.mono HB.out.2.2.size)
            have hrg : wr.rangeAt g (Pn * 64) (nums b) := by rw [← hb]; exact flat_range (HL.out.2.2.below hbl HG.out) HL.out.1 (by have := HL.out.2.1; omega)
            have HN := Lib.hid (And.intro hbk (And.intro hrg (And.intro hb hbl)))
            clear hb hbk hrg hbl
            have q3 : (Pn : Int) < (n : Int) := by omega
            go_wp2_with (first | ((with_reducible show wpList _ _ _ ((⟨_, Op.load 80 _, _, _, _, _⟩ : Oper) :: _) _ _); refine wpList_load_midG (by rfl) 80 (.tmp 25) rfl g (Pn * 64) rfl (nums b) _ HN.out.2.1 und_k rfl (info_km HN.out.1.1) ?_) | fail)
            refine (good_any (b := b) (kb_nums HN.out.1) (by omega)).mono ?_
            rintro e w3 ⟨rfl, hb3⟩
            have hgd : goodB b L (decide (P0 < Pn)) = decide (Jl.good s b) := by
              rw [← HS.out.2]
              refine good_is s b _ ?_
              rw [decide_eq_true_eq, ← HP.out.1, ← HS.out.1]
              exact (H2.out.1.no rfl).2.2.2
            rw [hgd]
            clear hgd
            by_cases hg : Jl.good s b
            · rw [decide_eq_true hg]
              obtain ⟨a1, a2, a3, a4, a5⟩ := H2.out.1.next (by rw [HP.out.1, HS.out.1]; exact hPs) (by rw [HS.out.1, HL.out.2.1]; exact hend) (by rw [HS.out.1]; exact HN.out.2.2.1) HN.out.1 hg
              have hbw3 := HN.out.2.2.2.trans (hb3.mono HN.out.2.2.2.size)
              have hrg3 : w3.rangeAt g (Pn * 64) (nums b) := by rw [← HN.out.2.2.1]; exact flat_range (HL.out.2.2.below hbw3 HG.out) HL.out.1 (by have := HL.out.2.1; omega)
              obtain ⟨w4, h4, k4, b4⟩ := boxedk w3 b
              have hb4 := (H2.out.2.2.trans (hb3.mono H2.out.2.2.size)).trans (b4.mono (H2.out.2.2.trans (hb3.mono H2.out.2.2.size)).size)
              have hr4 : RowU w4 wo.heap.size u5 rec := H2.out.2.1.below (hb3.trans (b4.mono hb3.size))
              have HA := Lib.hid (And.intro a1 (And.intro a2 (And.intro a3 (And.intro a4 a5))))
              have H4 := Lib.hid (And.intro hrg3 (And.intro h4 (And.intro k4 (And.intro hb4 (And.intro hr4 H2.out.1.len)))))
              clear a1 a2 a3 a4 a5 hbw3 hrg3 h4 k4 b4 hb4 hr4 hb3 hg
              have hzk := zero_k
              go_wp2_with (first | ((with_reducible show wpList _ _ _ ((⟨_, Op.load 80 _, _, _, _, _⟩ : Oper) :: _) _ _); refine wpList_load_mid rfl 80 (.tmp 36) rfl g (Pn * 64) rfl (nums b) _ H4.out.1 und_k rfl (info_km HN.out.1.1) ?_) | ((with_reducible show wpList _ _ _ ((⟨_, Op.store 80 _ _, _, _, _, _⟩ : Oper) :: _) _ _); refine wpList_store_row rfl 80 (.tmp 8) (.tmp 37) rfl w3.heap.size (nums b).toArray rfl rfl 80 zb (Whole.new w3 _ _) (info_kn HN.out.1.1) (size_bn HN.out.1.1) (all_nums _) ?_; rw [H4.out.2.1]) | ((with_reducible show wpList _ _ _ ((⟨_, Op.load 80 _, _, _, _, _⟩ : Oper) :: _) _ _); refine wpList_load_row rfl 80 (.tmp 8) rfl w3.heap.size rfl 80 (nums b).toArray (0, 0) _ H4.out.2.2.1 und_k rfl (info_kn HN.out.1.1) ?_) | fail)
              refine (text_any (kb_nums HN.out.1) HA.out.2.2.2.2).mono ?_
              rintro e w5 ⟨rfl, ht5, hb5⟩
              obtain ⟨T5, hT5⟩ : ∃ T5, w4.heap.size = T5 := ⟨_, rfl⟩
              rw [hT5] at ht5 ⊢
              obtain ⟨cb, hcb⟩ : ∃ cb, Jl.cnt b = cb := ⟨_, rfl⟩
              rw [hcb] at ht5 ⊢
              have hcb44 : cb ≤ 44 := by rw [← hcb]; exact HA.out.2.2.2.2
              have hr5 := H4.out.2.2.2.2.1.below hb5
              have H5 := Lib.hid (And.intro ht5 (And.intro hr5 (And.intro (H4.out.2.2.2.1.trans (hb5.mono H4.out.2.2.2.1.size)) (H4.out.2.2.1.below hb5 H4.out.2.2.1.lt))))
              have hcb' := Lib.hid hcb
              have hrl := H4.out.2.2.2.2.2
              rw [HS.out.1] at hrl
              clear ht5 hb5 hr5 hT5 hcb
              obtain ⟨iu, hu1, hu2, hu3, hu4⟩ := info_parts u8_info
              have HU := Lib.hid (And.intro hu1 (And.intro hu2 (And.intro hu3 hu4)))
              have hws : wo.heap.size ≤ w5.heap.size := H5.out.2.2.1.size
              clear hu1 hu2 hu3 hu4 hzk
              go_upto_region 11 with (first | (at_builtin; refine wpList_append_txt w5 rfl (.tmp 38) (.tmp 40) 37 rfl wo.heap.size 5 iu (.int .u8 0) 1 Try.underlying37 HU.out.1 HU.out.2.1 HU.out.2.2.1 HU.out.2.2.2 rfl u5 rec.length (nums rec) rfl H5.out.2.1.1 (fun q => q = T5) (some ⟨T5, 12, none⟩) cb 52 (Jl.body b) rfl H5.out.1 (by unfold maxLen; omega) (by omega) hws ?_; intro v6 w6 ho6 hg6 hf6) | fail)
              have r6 := H5.out.2.1.app ho6 H5.out.1.1 H5.out.1.2.2.1
              have b6 := below_own H5.out.2.2.1 hws hg6 (fun q hq => row_lt H5.out.2.1 hq)
              have k6 := grown_type H5.out.2.2.2 H5.out.2.1 hg6 (by decide)
              have H6 := Lib.hid (And.intro r6 (And.intro b6 k6))
              have r0 := whole_range k6
              clear ho6 hg6 hf6 r6 b6 k6 hws
              refine wp_region_held_drew (S := fun w' => w'.rangeAt w3.heap.size 0 (nums b)) (by kernel_rfl) r0 (fun hHeld => ?_)
              refine wpAnyH_take (i := 0) (v := .agg (nums b).toArray) rfl (by kernel_rfl) (by kernel_rfl) (by kernel_rfl) (fun _ _ _ h => h) (yieldsIf_load_mid (by rfl) 80 _ rfl _ _ rfl _ _ (fun w hSw => hSw) und_k rfl (info_km HN.out.1.1)) (by assumption) ?_
              try simp only [Act.put, List.getElem_toArray, List.getElem_cons_zero, List.getElem_cons_succ, List.setIfInBounds_toArray, List.set_cons_zero, List.set_cons_succ]
              refine wpAnyH_take (i := 2) (v := .agg (nums b).toArray) rfl (by kernel_rfl) (by kernel_rfl) (by kernel_rfl) (fun _ _ _ h => h) (yieldsIf_load_mid (by rfl) 80 _ rfl _ _ rfl _ _ (fun w hSw => hSw) und_k rfl (info_km HN.out.1.1)) (by assumption) ?_
              try simp only [Act.put, List.getElem_toArray, List.getElem_cons_zero, List.getElem_cons_succ, List.setIfInBounds_toArray, List.set_cons_zero, List.set_cons_succ]
              refine wpAnyH_ready (rs := [1]) (by kernel_rfl) (by simp) (AllReadyH.cons rfl (fun K hK => ?_) AllReadyH.nil)
              try simp only [List.getElem_toArray, List.getElem_cons_zero, List.getElem_cons_succ]
              go_simp
              refine (head_any (kb_nums HN.out.1)).mono ?_
              rintro e w7 ⟨rfl, hb7⟩
              have r7 : w7.rangeAt w3.heap.size 0 (nums b) := whole_range (H6.out.2.2.below (below_drew hb7) H6.out.2.2.lt)
              have H7 := Lib.hid (And.intro (H6.out.1.below (below_drew hb7)) (And.intro (H6.out.2.1.trans ((below_drew hb7).mono H6.out.2.1.size)) (H6.out.2.2.below (below_drew hb7) H6.out.2.2.lt)))
              clear hb7 hHeld r0
              go_wp2_with fail
              refine hK.out _ _ r7 (fun hHeld => ?_)
              clear hK K hHeld
              try simp only [Act.put, List.getElem_toArray, List.getElem_cons_zero, List.getElem_cons_succ, List.setIfInBounds_toArray, List.set_cons_zero, List.set_cons_succ]
              have hHeld := r7
              refine wpAnyH_ready (rs := [3]) (by kernel_rfl) (by simp) (AllReadyH.cons rfl (fun K hK => ?_) AllReadyH.nil)
              try simp only [List.getElem_toArray, List.getElem_cons_zero, List.getElem_cons_succ]
              go_simp
              refine (last_any (kb_nums HN.out.1)).mono ?_
              rintro e w8 ⟨rfl, hb8⟩
              have r8 : w8.rangeAt w3.heap.size 0 (nums b) := whole_range (H7.out.2.2.below hb8 H7.out.2.2.lt)
              have H8 := Lib.hid (And.intro (H7.out.1.below hb8) (H7.out.2.1.trans (hb8.mono H7.out.2.1.size)))
              clear hb8 hHeld r7
              go_wp2_with fail
              refine hK.out _ _ r8 (fun hHeld => ?_)
              clear hK K
              try simp only [Act.put, List.getElem_toArray, List.getElem_cons_zero, List.getElem_cons_succ, List.setIfInBounds_toArray, List.set_cons_zero, List.set_cons_succ]
              obtain ⟨la, hla⟩ : ∃ la, decide (Jl.byt b 10 = 1) = la := ⟨_, rfl⟩
              rw [hla]
              rw [hla] at HA
              clear hla
              refine wpAnyH_take (i := 4) (v := .int .u64 ((hd b : Nat) : Int)) rfl (by kernel_rfl) (by kernel_rfl) (by kernel_rfl) (fun _ _ _ h => h) (Or.inl ⟨by rfl, (by intro w hSw; (try dsimp only at hSw); go_simp)⟩) (by assumption) ?_
              try simp only [Act.put, List.getElem_toArray, List.getElem_cons_zero, List.getElem_cons_succ, List.setIfInBounds_toArray, List.set_cons_zero, List.set_cons_succ]
              refine wpAnyH_take (i := 5) (v := .bool la) rfl (by kernel_rfl) (by kernel_rfl) (by kernel_rfl) (fun _ _ _ h => h) (Or.inl ⟨by rfl, (by intro w hSw; (try dsimp only at hSw); go_simp)⟩) (by assumption) ?_
              try simp only [Act.put, List.getElem_toArray, List.getElem_cons_zero, List.getElem_cons_succ, List.setIfInBounds_toArray, List.set_cons_zero, List.set_cons_succ]
              refine wpAnyH_done (by kernel_rfl) ?_ _
              go_wp2
              go_roundw
              case rel =>
                refine ⟨Jl.step s b, la, rec ++ Jl.body b, by have := HA.out.2.1; have := HS.out.1; omega, by have := HA.out.2.1; have := HS.out.1; omega, by rw [HA.out.2.2.1]; exact HA.out.2.2.2.1, by rw [HA.out.2.2.1], by rw [HA.out.2.1, HS.out.1]; go_num, rfl, fun _ => by have := HA.out.2.1; have := HS.out.1; omega, Lib.hid ⟨HA.out.1, H8.out.1, H8.out.2⟩⟩
              case measure => simp [intOf]; omega
            · rw [decide_eq_false hg]
              have HF : Hid ((Jl.go bs (J0 0)).used = P0 ∧ Recs w3 w.heap.size u2 (Jl.go bs (J0 0)).recs ∧ Below w.heap.size w w3) := Lib.hid (by
                have e := go_end H2.out.1.thru (Or.inr ⟨b, by rw [HS.out.1, ← HN.out.2.2.1, List.getD_eq_getElem?_getD, List.getElem?_eq_getElem (by have := HL.out.2.1; omega)]; rfl, hg⟩)
                obtain ⟨n1, n2, n3, n4⟩ := H2.out.1.no rfl
                rw [e, n2, n3]
                exact ⟨HP.out.1, (HB.out.2.1.below H2.out.2.2).below (hb3.mono (Nat.le_refl _)), HN.out.2.2.2.trans (hb3.mono HN.out.2.2.2.size)⟩)
              clear hb3 hg
              go_wp2
              rw [Exit.noGoto_ret]
              go_ret2
              exact ⟨u2, by rw [HF.out.1]; rfl, HF.out.2.1, HF.out.2.2⟩
          · obtain rfl : Pn = n := by omega
            have q2 : ((Pn : Int) == (Pn : Int)) = true := by simp
            have HF : Hid ((Jl.go bs (J0 0)).used = P0 ∧ Recs wr w.heap.size u2 (Jl.go bs (J0 0)).recs ∧ Below w.heap.size w wr) := Lib.hid (by
              have e := go_end H2.out.1.thru (Or.inl (by have := HL.out.2.1; have := HS.out.1; omega))
              obtain ⟨n1, n2, n3, n4⟩ := H2.out.1.no rfl
              rw [e, n2, n3]
              exact ⟨HP.out.1, HB.out.2.1.below H2.out.2.2, HB.out.2.2.trans (H2.out.2.2.mono HB.out.2.2.size)⟩)
            go_wp2
            rw [Exit.noGoto_ret]
            go_ret2
            exact ⟨u2, by rw [HF.out.1]; rfl, HF.out.2.1, HF.out.2.2⟩
    · obtain rfl : P0 = n := by omega
      have q1 : ¬ (P0 : Int) < (P0 : Int) := by omega
      have HF : Hid ((Jl.go bs (J0 0)).used = P0 ∧ Recs wo w.heap.size u2 (Jl.go bs (J0 0)).recs ∧ Below w.heap.size w wo) := Lib.hid (by
        have e := go_end HB.out.1 (Or.inl (by have := HL.out.2.1; have := HP.out.1; omega))
        rw [e]
        exact ⟨by rw [HP.out.2.2.1, HP.out.1], HB.out.2.1, HB.out.2.2⟩)
      go_wp2
      go_ret2
      exact ⟨u2, by rw [HF.out.1]; rfl, HF.out.2.1, HF.out.2.2⟩
end Go.Proofs.Ytfecobkpdmjaeaa
