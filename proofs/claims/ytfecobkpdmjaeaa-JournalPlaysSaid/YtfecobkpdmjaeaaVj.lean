/-
  The walk of JournalPlays.
-/
import Derived.Test.YtfecobkpdmjaeaaVi
namespace Go.Proofs.Ytfecobkpdmjaeaa
open Go.RowKit
set_option linter.unusedVariables false
set_option linter.unusedSimpArgs false
set_option maxRecDepth 20000
section
variable {w w' W : World} {B p bb mb r fr m : Nat} {A : Dm.A} {j : Nat} {L : List (List Int)} {used life : Nat} {A2 : Dm.A} {k : Nat} {L2 : List (List Int)} {used2 life2 : Nat}
theorem b_open (h : Duo w W B p bb mb r fr m A j L used life A2 k L2 used2 life2) (hup : A.down = false) (hm : fr + m ≤ 40) :
    Calls Try.prog 13 #[.pointer (some ⟨p, 0, none⟩), .int .i64 (fr : Int), .int .i64 (m : Int)] w fun e w' => ∃ j2, e = .returned (.tuple #[.pointer (some ⟨j2, 0, none⟩), .int .i64 0]) ∧ Duo w' W B p bb mb r fr m A j2 (opL A fr m) (opU A fr m) (opF A fr m) A2 k L2 used2 life2 ∧ Keeps w w' := by
  obtain ⟨vL, vN, vD, hr⟩ := h.rk
  obtain ⟨v2, hk⟩ := h.rj
  have hpl := h.pl
  have hs := h.size
  refine (open_any h.d hup hm).mono ?_
  rintro e w' ⟨j2, v, rfl, hj2, hjs, hb⟩
  exact ⟨j2, rfl, ⟨h.d.old hb, ⟨vL, vN, vD, hr.below hb⟩, ⟨v, ⟨hj2.cells, hj2.recs.mono hs⟩⟩, ⟨v2, hk.below hb⟩, h.below.trans (hb.mono h.below.size), by omega, Nat.le_trans hs hb.size⟩, Keeps.below hb⟩
theorem b_ropen (h : Duo w W B p bb mb r fr m A j L used life A2 k L2 used2 life2) (hup : A2.down = false) (hm : fr + m ≤ 40) :
    Calls Try.prog 14 #[.pointer (some ⟨r, 0, none⟩), .int .i64 (fr : Int), .int .i64 (m : Int)] w fun e w' => ∃ k2, e = .returned (.tuple #[.pointer (some ⟨k2, 0, none⟩), .int .i64 0]) ∧ Duo w' W B p bb mb r fr m A j L used life A2 k2 (opL A2 fr m) (opU A2 fr m) (opF A2 fr m) ∧ Keeps w w' := by
  obtain ⟨vL, vN, vD, hr⟩ := h.rk
  obtain ⟨v1, hj⟩ := h.jr
  have hpl := h.pl
  have hs := h.size
  refine (ropen_any hr hup hm).mono ?_
  rintro e w' ⟨k2, v, rfl, hk2, hks, hb⟩
  rw [(go_J1 _).1, (go_J1 _).2] at hk2
  exact ⟨k2, rfl, ⟨h.d.old hb, ⟨vL, vN, vD, hr.below hb⟩, ⟨v1, hj.below hb⟩, ⟨v, ⟨hk2.cells, hk2.recs.mono hs⟩⟩, h.below.trans (hb.mono h.below.size), by omega, Nat.le_trans hs hb.size⟩, Keeps.below hb⟩
end
theorem drew_below (w : World) : Below w.heap.size w w.drew := ⟨rfl, rfl, rfl, Nat.le_refl _, fun _ _ => rfl⟩
/-- Both, within the loop. -/
def Lp (W : World) (B p bb mb r fr m : Nat) (vj vk : Value) (i : Nat) (wr : World) : Prop :=
  ∃ (j k : Nat) (A : Dm.A) (L : List (List Int)) (used life : Nat), vj = .pointer (some ⟨j, 0, none⟩) ∧ vk = .pointer (some ⟨k, 0, none⟩) ∧ Duo wr W B p bb mb r fr m A j L used life A k L used life ∧ Fit fr m L used life i
/-- Both, behind a call. -/
def Mid (W : World) (B p bb mb r fr m j k life i G : Nat) (cs : Array Value) (wr : World) : Prop :=
  ∃ (A : Dm.A) (L : List (List Int)) (used : Nat), Duo wr W B p bb mb r fr m A j L used life A k L used life ∧ Fit fr m L used life i ∧ Whole wr G 40 cs
set_option maxHeartbeats 8000000 in
set_option maxRecDepth 100000 in
theorem plays_walk (z1 z2 : Int) (ca : Option Addr) (cl cc : Nat) (cs : List Jc) (w : World) (b1 : -9223372036854775808 ≤ z1) (b2 : z1 ≤ 9223372036854775807) (b3 : -9223372036854775808 ≤ z2) (b4 : z2 ≤ 9223372036854775807) (hcs : Jcs w (· < w.heap.size) ca cl cs) :
    Calls Try.prog 4 #[.int .i64 z1, .int .i64 z2, .slice ca cl cc] w fun e w' => e = .returned (.bool true) ∧ Below w.heap.size w w' := by
  have hcm := hcs.1
  unfold maxLen at hcm
  have HL0 := Lib.hid hcs
  clear hcs
  have hup0 : (fresh 40).down = false := rfl
  have HUP := Lib.hid hup0
  clear hup0
  by_cases hbad : z1 < 0 ∨ z2 < 0 ∨ (40 : Int) - z1 < z2
  · have HB0 := Lib.hid hbad
    have HB2 := Lib.hid b2
    clear hbad b1 b2 b3 b4 hcm
    go_enter Try.func4, Try.ntmps4
    go_wp2_with fail
    refine awake_any.mono ?_
    rintro e w1 ⟨rfl, hb1⟩
    have HB1 := Lib.hid hb1
    clear hb1
    go_wp2_with fail
    refine (new_ok (n := 40) (by omega)).mono ?_
    rintro e w2 ⟨p, bb, mb, rfl, hd2, hp, hbb, hmb, hb2⟩
    have H2 := Lib.hid (And.intro hd2 (HB1.out.trans (hb2.mono HB1.out.size)))
    clear hd2 hp hbb hmb hb2 HB1
    go_wp2_with fail
    refine (rnew_ok (n := 40) (B := w2.heap.size) (by omega) (Nat.le_refl _)).mono ?_
    rintro e w3 ⟨r, vL, vN, vD, rfl, hr3, hb3⟩
    have H3 := Lib.hid (And.intro (H2.out.1.old hb3) (And.intro hr3 (H2.out.2.trans (hb3.mono H2.out.2.size))))
    clear hr3 hb3 H2
    go_wp2_with fail
    refine (open_arg H3.out.1 HB2.out HB0.out).mono ?_
    rintro e w4 ⟨rfl, rfl⟩
    go_wp2_with fail
    refine (ropen_arg (z1 := z1) (z2 := z2) H3.out.2.1 (by have := HB0.out; omega)).mono ?_
    rintro e w4 ⟨rfl, rfl⟩
    go_wp2
    go_ret
    exact ⟨rfl, H3.out.2.2⟩
  · obtain ⟨fr, rfl⟩ : ∃ fr : Nat, z1 = fr := Int.eq_ofNat_of_zero_le (by omega)
    obtain ⟨m, rfl⟩ : ∃ m : Nat, z2 = m := Int.eq_ofNat_of_zero_le (by omega)
    have hfm : fr + m ≤ 40 := by omega
    clear hbad b1 b2 b3 b4
    go_enter Try.func4, Try.ntmps4
    go_wp2_with fail
    refine awake_any.mono ?_
    rintro e w1 ⟨rfl, hb1⟩
    have HB1 := Lib.hid hb1
    clear hb1
    go_wp2_with fail
    refine (new_ok (n := 40) (by omega)).mono ?_
    rintro e w2 ⟨p, bb, mb, rfl, hd2, hp, hbb, hmb, hb2⟩
    have hs1 := HB1.out.size
    have HP : Hid (w.heap.size ≤ p ∧ w.heap.size ≤ bb ∧ w.heap.size ≤ mb ∧ p < w2.heap.size ∧ bb < w2.heap.size ∧ mb < w2.heap.size) := Lib.hid ⟨by omega, by omega, by omega, hd2.cells.lt, hd2.bytes.lt, hd2.map.lt⟩
    have H2 := Lib.hid (And.intro hd2 (HB1.out.trans (hb2.mono hs1)))
    clear hd2 hp hbb hmb hb2 hs1 HB1
    go_wp2_with fail
    refine (rnew_ok (n := 40) (B := w2.heap.size) (by omega) (Nat.le_refl _)).mono ?_
    rintro e w3 ⟨r, vL, vN, vD, rfl, hr3, hb3⟩
    have H3 := Lib.hid (And.intro (H2.out.1.old hb3) (And.intro hr3 (And.intro (H2.out.2.trans (hb3.mono H2.out.2.size)) (And.intro hb3.size H2.out.2.size))))
    clear hr3 hb3 H2
    go_wp2_with fail
    refine (open_any (fr := fr) (m := m) H3.out.1 HUP.out hfm).mono ?_
    rintro e w4 ⟨j, vj, rfl, hj4, hjs4, hb4⟩
    have H4 := Lib.hid (And.intro hj4 (And.intro hjs4 hb4))
    clear hj4 hjs4 hb4
    go_wp2_with fail
    refine (ropen_any (fr := fr) (m := m) (H3.out.2.1.below H4.out.2.2) HUP.out hfm).mono ?_
    rintro e w5 ⟨k, vk, rfl, hk5, hks5, hb5⟩
    rw [(go_J1 _).1, (go_J1 _).2] at hk5
    obtain ⟨B, hB⟩ : ∃ B, w2.heap.size = B := ⟨_, rfl⟩
    have H5 : Hid (Lp w B p bb mb r fr m (.pointer (some ⟨j, 0, none⟩)) (.pointer (some ⟨k, 0, none⟩)) 0 w5) := Lib.hid (by
      have hb45 := H4.out.2.2.trans (hb5.mono H4.out.2.2.size)
      have h1 := H4.out.2.1
      have h2 := H4.out.2.2.size
      have h3 := H3.out.2.2.2
      have h4 := HP.out
      have hr3 := H3.out.2.1
      rw [hB] at h3 h4 hr3
      refine ⟨j, k, fresh 40, opL (fresh 40) fr m, opU (fresh 40) fr m, opF (fresh 40) fr m, rfl, rfl, ⟨H3.out.1.old hb45, ⟨vL, vN, vD, hr3.below hb45⟩, ⟨vj, ?_⟩, ⟨vk, ⟨hk5.cells, hk5.recs.mono (by omega)⟩⟩, H3.out.2.2.1.trans (hb45.mono H3.out.2.2.1.size), by omega, by have := hb45.size; omega⟩, op_fit _ hfm⟩
      exact (show Jr w5 B j p vj (fr + opU (fresh 40) fr m) (m - opU (fresh 40) fr m) (opF (fresh 40) fr m) (opL (fresh 40) fr m) from ⟨(H4.out.1.below hb5).cells, (H4.out.1.below hb5).recs.mono (by omega)⟩))
    clear hk5 hks5 hb5 hB H4 H3 HP
    go_wp2
    go_loopg [12, 14, 16] 40 (fun g vj vk vi wr => ∃ i : Nat, i ≤ cl ∧ g + i = 40 ∧ vi = .int .i64 (i : Int) ∧ Hid (Lp w B p bb mb r fr m vj vk i wr))
    case atStart => exact ⟨0, Nat.zero_le _, rfl, rfl, H5⟩
    case round =>
      clear H5
      obtain ⟨i, hi1, hgi, rfl, HB⟩ := hrel
      have hi2 : i ≤ 40 := by omega
      have HG := Lib.hid hgi
      clear hgi
      by_cases q1 : i < cl
      · have q1' : (i : Int) < (cl : Int) := by omega
        by_cases q2 : i < 40
        · have q2' : (i : Int) < 40 := by omega
          obtain ⟨j, k, A, L, used, life, rfl, rfl, hD, hF⟩ := HB.out
          have HD := Lib.hid hD
          have HF := Lib.hid hF
          clear hD hF HB
          obtain ⟨sb, so, c, l, rfl, hsb, hsb2, hci, hr, ⟨⟨ba, bn, bc, fa, fn, fc, rfl, htx, hbc, hit, hfn⟩, hk1, hk2⟩⟩ := HL0.out.at_ q1
          have hrr : wr.rangeAt sb (so + i * 4) [.int .i64 c.kind, .slice ba bn bc, .int .i64 c.n, .slice fa fn fc] := fun jj vv hv => (World.cell?_of_block (w := w) (HD.out.below.block sb hsb)).trans (hr jj vv hv)
          have hbn : bn ≤ bc := htx.2.1
          obtain ⟨ki, hki⟩ : ∃ ki, c.kind = ki := ⟨_, rfl⟩
          obtain ⟨nn, hnn⟩ : ∃ nn, c.n = nn := ⟨_, rfl⟩
          obtain ⟨bs, hbs⟩ : ∃ bs, c.b = bs := ⟨_, rfl⟩
          obtain ⟨fs, hfs⟩ : ∃ fs, c.f = fs := ⟨_, rfl⟩
          rw [hki, hnn] at hrr
          rw [hbs] at htx
          rw [hfs] at hit
          have HC := Lib.hid (And.intro hrr (And.intro htx (And.intro hit (And.intro hfn hbc))))
          rw [hki] at hk1
          rw [hnn] at hk2
          unfold maxLen at hbc
          clear hr hrr htx hit hfn hki hnn hbs hfs hsb hsb2 hci hk2 c
          have hzc := zero_call
          obtain ⟨fds, hund⟩ := und_call
          have HU := Lib.hid hund
          clear hund
          go_upto_region 16 with (first | ((with_reducible show wpList _ _ _ ((⟨_, Op.load 40 _, _, _, _, _⟩ : Oper) :: _) _ _); refine wpList_load_mid rfl 40 (.tmp 74) rfl sb (so + i * 4) rfl [.int .i64 ki, .slice ba bn bc, .int .i64 nn, .slice fa fn fc] _ HC.out.1 HU.out rfl info_call ?_) | fail)
          have k4 := Whole.new wr 40 #[.int .i64 ki, .slice ba bn bc, .int .i64 nn, .slice fa fn fc]
          have b4 := below_alloc wr (.cells #[.int .i64 ki, .slice ba bn bc, .int .i64 nn, .slice fa fn fc] 40)
          have H4 := Lib.hid (And.intro k4 (HD.out.old b4))
          obtain ⟨w4, h4⟩ : ∃ w4, wr.alloc (.cells #[.int .i64 ki, .slice ba bn bc, .int .i64 nn, .slice fa fn fc] 40) = w4 := ⟨_, rfl⟩
          obtain ⟨G, hG⟩ : ∃ G, wr.heap.size = G := ⟨_, rfl⟩
          rw [h4] at H4 ⊢
          rw [hG] at H4 ⊢
          have c0 : w4.cell? ⟨G, 0, none⟩ = some (.int .i64 ki) := H4.out.1.cell 0
          have c1 : w4.cell? ⟨G, 1, none⟩ = some (.slice ba bn bc) := H4.out.1.cell 1
          clear k4 b4 h4 hG hzc HD
          have HCC := Lib.hid (And.intro c0 c1)
          go_cut [91] (fun v wx => ∃ b : Bool, v = .bool b ∧ (b = false → bn ≤ 2100) ∧ wx = w4)
          case first => as_aux_lemma =>
            by_cases t1 : 300 < bn
            · have t1' : (300 : Int) < (bn : Int) := by omega
              by_cases t2 : bn ≤ 2000
              · have t2' : (bn : Int) ≤ 2000 := by omega
                go_wp2
                go_meet
                case rel => exact ⟨true, rfl, (fun h => by cases h), rfl⟩
              · have t2' : ¬ (bn : Int) ≤ 2000 := by omega
                by_cases t3 : 2100 < bn
                · have t3' : (2100 : Int) < (bn : Int) := by omega
                  go_wp2
                  go_meet
                  case rel => exact ⟨true, rfl, (fun h => by cases h), rfl⟩
                · have t3' : ¬ (2100 : Int) < (bn : Int) := by omega
                  go_wp2
                  go_meet
                  case rel => exact ⟨false, rfl, (fun h => by omega), rfl⟩
            · have t1' : ¬ (300 : Int) < (bn : Int) := by omega
              have t3' : ¬ (2100 : Int) < (bn : Int) := by omega
              go_wp2
              go_meet
              case rel => exact ⟨false, rfl, (fun h => by omega), rfl⟩
          case rest =>
          obtain ⟨b, rfl, hb, rfl⟩ := hcut
          cases b with
          | true =>
            clear hb
            go_wp2
            go_roundg (gk - 1)
            case measure => have := HG.out; omega
            case rel => exact ⟨i + 1, by omega, by have := HG.out; omega, by go_num, Lib.hid ⟨j, k, A, L, used, life, rfl, rfl, H4.out.2, HF.out.le (Nat.le_succ i)⟩⟩
          | false =>
            have hbb : bn ≤ 2100 := hb rfl
            clear hb
            go_upto_block 2 with (fail)
            go_cut [18] (fun v wx => v = .bool true ∧ Hid (Mid w B p bb mb r fr m j k life (i + 1) G #[.int .i64 ki, .slice ba bn bc, .int .i64 nn, .slice fa fn fc] wx))
            case first => as_aux_lemma =>
-- FIRST
              by_cases k1 : ki = 1
              · as_aux_lemma =>
                  subst k1
                  go_upto_region 20 with fail
                  refine wp_region_held_drew (S := fun w' => w'.cell? ⟨G, 1, none⟩ = some (.slice ba bn bc)) (by kernel_rfl) c1 (fun hHeld => ?_)
                  refine wpAnyH_take (i := 0) (v := .pointer (some ⟨j, 0, none⟩)) rfl (by kernel_rfl) (by kernel_rfl) (by kernel_rfl) (fun _ _ _ h => h) (Or.inl ⟨by rfl, (by intro w hSw; (try dsimp only at hSw); go_simp)⟩) (by assumption) ?_
                  try simp only [Act.put, List.getElem_toArray, List.getElem_cons_zero, List.getElem_cons_succ, List.setIfInBounds_toArray, List.set_cons_zero, List.set_cons_succ]
                  refine wpAnyH_take (i := 1) (v := .pointer (some ⟨G, 1, none⟩)) rfl (by kernel_rfl) (by kernel_rfl) (by kernel_rfl) (fun _ _ _ h => h) (Or.inl ⟨by rfl, (by intro w hSw; (try dsimp only at hSw); go_simp)⟩) (by assumption) ?_
                  try simp only [Act.put, List.getElem_toArray, List.getElem_cons_zero, List.getElem_cons_succ, List.setIfInBounds_toArray, List.set_cons_zero, List.set_cons_succ]
                  refine wpAnyH_take (i := 2) (v := .slice ba bn bc) rfl (by kernel_rfl) (by kernel_rfl) (by kernel_rfl) (fun _ _ _ h => h) (Or.inl ⟨by rfl, (by intro w hSw; (try dsimp only at hSw); go_simp)⟩) (by assumption) ?_
                  try simp only [Act.put, List.getElem_toArray, List.getElem_cons_zero, List.getElem_cons_succ, List.setIfInBounds_toArray, List.set_cons_zero, List.set_cons_succ]
                  refine wpAnyH_take (i := 4) (v := .pointer (some ⟨k, 0, none⟩)) rfl (by kernel_rfl) (by kernel_rfl) (by kernel_rfl) (fun _ _ _ h => h) (Or.inl ⟨by rfl, (by intro w hSw; (try dsimp only at hSw); go_simp)⟩) (by assumption) ?_
                  try simp only [Act.put, List.getElem_toArray, List.getElem_cons_zero, List.getElem_cons_succ, List.setIfInBounds_toArray, List.set_cons_zero, List.set_cons_succ]
                  refine wpAnyH_take (i := 5) (v := .pointer (some ⟨G, 1, none⟩)) rfl (by kernel_rfl) (by kernel_rfl) (by kernel_rfl) (fun _ _ _ h => h) (Or.inl ⟨by rfl, (by intro w hSw; (try dsimp only at hSw); go_simp)⟩) (by assumption) ?_
                  try simp only [Act.put, List.getElem_toArray, List.getElem_cons_zero, List.getElem_cons_succ, List.setIfInBounds_toArray, List.set_cons_zero, List.set_cons_succ]
                  refine wpAnyH_take (i := 6) (v := .slice ba bn bc) rfl (by kernel_rfl) (by kernel_rfl) (by kernel_rfl) (fun _ _ _ h => h) (Or.inl ⟨by rfl, (by intro w hSw; (try dsimp only at hSw); go_simp)⟩) (by assumption) ?_
                  try simp only [Act.put, List.getElem_toArray, List.getElem_cons_zero, List.getElem_cons_succ, List.setIfInBounds_toArray, List.set_cons_zero, List.set_cons_succ]
                  refine wpAnyH_ready (rs := [3]) (by kernel_rfl) (by simp) (AllReadyH.cons rfl (fun K hK => ?_) AllReadyH.nil)
                  try simp only [List.getElem_toArray, List.getElem_cons_zero, List.getElem_cons_succ]
                  go_simp
                  go_at_call 15
                  refine (b_append (H4.out.2.old (drew_below wc)) HF.out (by omega) HC.out.2.1).mono ?_
                  rintro e w5 ⟨z, A5, L5, u5, rfl, ha5, hd5, hk5⟩
                  have kb5 := hk5 G _ (H4.out.1.below (drew_below wc) H4.out.1.lt)
                  have c5 : w5.cell? ⟨G, 1, none⟩ = some (.slice ba bn bc) := kb5.cell 1
                  have H5 := Lib.hid (And.intro ha5 (And.intro hd5 kb5))
                  clear ha5 hd5 hk5 kb5 c0 c1
                  go_wp2_with fail
                  refine hK.out _ _ c5 (fun hHeld => ?_)
                  clear hK K
                  try simp only [Act.put, List.getElem_toArray, List.getElem_cons_zero, List.getElem_cons_succ, List.setIfInBounds_toArray, List.set_cons_zero, List.set_cons_succ]
                  refine wpAnyH_ready (rs := [7]) (by kernel_rfl) (by simp) (AllReadyH.cons rfl (fun K hK => ?_) AllReadyH.nil)
                  try simp only [List.getElem_toArray, List.getElem_cons_zero, List.getElem_cons_succ]
                  go_simp
                  go_at_call 16
                  refine (b_rappend H5.out.2.1 HF.out (by omega) HC.out.2.1 HC.out.2.2.2.2).mono ?_
                  rintro e w6 ⟨z6, A6, L6, u6, rfl, ha6, hd6, hk6⟩
                  obtain ⟨hz, hA, hL, hu⟩ := ha6.one H5.out.1
                  subst hz hA hL hu
                  have kb6 := hk6 G _ H5.out.2.2
                  have c6 : w6.cell? ⟨G, 1, none⟩ = some (.slice ba bn bc) := kb6.cell 1
                  have H6 : Hid (Mid w B p bb mb r fr m j k life (i + 1) G #[.int .i64 1, .slice ba bn bc, .int .i64 nn, .slice fa fn fc] w6) := Lib.hid ⟨A6, L6, u6, hd6, ha6.fit HF.out, kb6⟩
                  clear ha6 hd6 hk6 kb6 c5 hHeld
                  go_wp2_with fail
                  refine hK.out _ _ c6 (fun hHeld => ?_)
                  clear hK K
                  try simp only [Act.put, List.getElem_toArray, List.getElem_cons_zero, List.getElem_cons_succ, List.setIfInBounds_toArray, List.set_cons_zero, List.set_cons_succ]
                  have q5 : (z6 == z6) = true := by simp
                  refine wpAnyH_take (i := 8) (v := .bool true) rfl (by kernel_rfl) (by kernel_rfl) (by kernel_rfl) (fun _ _ _ h => h) (Or.inl ⟨by rfl, (by intro w hSw; (try dsimp only at hSw); go_simp)⟩) (by assumption) ?_
                  try simp only [Act.put, List.getElem_toArray, List.getElem_cons_zero, List.getElem_cons_succ, List.setIfInBounds_toArray, List.set_cons_zero, List.set_cons_succ]
                  refine wpAnyH_take (i := 9) (v := .bool true) rfl (by kernel_rfl) (by kernel_rfl) (by kernel_rfl) (fun _ _ _ h => h) (Or.inl ⟨by rfl, (by intro w hSw; (try dsimp only at hSw); go_simp)⟩) (by assumption) ?_
                  try simp only [Act.put, List.getElem_toArray, List.getElem_cons_zero, List.getElem_cons_succ, List.setIfInBounds_toArray, List.set_cons_zero, List.set_cons_succ]
                  refine wpAnyH_done (by kernel_rfl) ?_ _
                  clear c6 hHeld q5
                  go_wp2
                  go_meet
                  case rel => exact ⟨rfl, H6⟩
              · have k1' : (ki == 1) = false := by simp; exact k1
                by_cases k2 : ki = 2
                · as_aux_lemma =>
                    subst k2
                    clear k1 k1'
                    go_wp2_with fail
                    refine (b_force H4.out.2).mono ?_
                    rintro e w5 ⟨rfl, hd5, hk5⟩
                    obtain ⟨z, hz⟩ : ∃ z, dnz A = z := ⟨_, rfl⟩
                    rw [hz]
                    have H5 := Lib.hid (And.intro hd5 (And.intro (hk5 G _ H4.out.1) hz))
                    clear hd5 hk5 hz c0 c1
                    go_wp2_with fail
                    refine (b_rflush H5.out.1).mono ?_
                    rintro e w6 ⟨rfl, hd6, hk6⟩
                    rw [H5.out.2.2]
                    have H6 : Hid (Mid w B p bb mb r fr m j k life (i + 1) G #[.int .i64 2, .slice ba bn bc, .int .i64 nn, .slice fa fn fc] w6) := Lib.hid ⟨_, L, used, hd6, HF.out.le (Nat.le_succ i), hk6 G _ H5.out.2.1⟩
                    have q5 : (z == z) = true := by simp
                    clear hd6 hk6
                    go_wp2
                    go_meet
                    case rel => exact ⟨rfl, H6⟩
                · have k2' : (ki == 2) = false := by simp; exact k2
                  by_cases k46 : ki = 4 ∨ ki = 6
                  · as_aux_lemma =>
                      have c3 : wc.cell? ⟨G, 3, none⟩ = some (.slice fa fn fc) := H4.out.1.cell 3
                      have HK46 := Lib.hid k46
                      have k6' : (ki == 4) = false → (ki == 6) = true := by
                        intro h
                        rcases k46 with h2 | h2
                        · rw [h2] at h; cases h
                        · rw [h2]; rfl
                      clear k1 k2 k46
                      obtain ⟨x4, hx4⟩ : ∃ x4, (ki == 4) = x4 := ⟨_, rfl⟩
                      obtain ⟨x6, hx6⟩ : ∃ x6, (ki == 6) = x6 := ⟨_, rfl⟩
                      rw [hx4, hx6] at k6'
                      go_upto_if 112 with (fail)
                      go_cut [112] (fun v wx => v = .bool true ∧ wx = wc)
                      case first =>
                        cases x4 with
                        | true =>
                          go_wp2
                          go_meet
                          case rel => exact ⟨rfl, rfl⟩
                        | false =>
                          obtain rfl := k6' rfl
                          go_wp2
                          go_meet
                          case rel => exact ⟨rfl, rfl⟩
                      case rest =>
                      obtain ⟨rfl, rfl⟩ := hcut
                      clear k6' hx4 hx6 HK46
                      go_wp2_with fail
                      refine (b_crash H4.out.2 HC.out.2.2.1 HC.out.2.2.2.1).mono ?_
                      rintro e w5 ⟨rfl, hd5, hk5⟩
                      have kb5 := hk5 G _ H4.out.1
                      have c5 : w5.cell? ⟨G, 3, none⟩ = some (.slice fa fn fc) := kb5.cell 3
                      have H5 := Lib.hid (And.intro hd5 kb5)
                      clear hd5 hk5 kb5 c0 c1 c3
                      go_wp2_with fail
                      refine (b_rcrash H5.out.1 HC.out.2.2.1 HC.out.2.2.2.1).mono ?_
                      rintro e w6 ⟨rfl, hd6, hk6⟩
                      have H6 : Hid (Mid w B p bb mb r fr m j k life (i + 1) G #[.int .i64 ki, .slice ba bn bc, .int .i64 nn, .slice fa fn fc] w6) := Lib.hid ⟨_, L, used, hd6, HF.out.le (Nat.le_succ i), hk6 G _ H5.out.2⟩
                      clear hd6 hk6 c5
                      go_wp2
                      go_meet
                      case rel => exact ⟨rfl, H6⟩
                  · have k4' : (ki == 4) = false := by simp; omega
                    have k6' : (ki == 6) = false := by simp; omega
                    by_cases k5 : ki = 5
                    · as_aux_lemma =>
                        subst k5
                        clear k1 k2 k46 k1' k2' k4' k6'
                        have c2 : wc.cell? ⟨G, 2, none⟩ = some (.int .i64 nn) := H4.out.1.cell 2
                        have hx64 := fst64_len bs
                        have hxb := fst64_byt HC.out.2.1.2.2.1
                        obtain ⟨X, hX⟩ : ∃ X, fst64 bs = X := ⟨_, rfl⟩
                        rw [hX] at hx64 hxb
                        have HX := Lib.hid (And.intro hX (And.intro hx64 hxb))
                        clear hX hx64 hxb
                        obtain ⟨E, hE⟩ : ∃ E, bad A 40 nn = E := ⟨_, rfl⟩
                        have HE := Lib.hid hE
                        clear hE
                        go_upto_region 28 with fail
                        refine wp_region_held_drew (S := fun w' => w'.cell? ⟨G, 1, none⟩ = some (.slice ba bn bc) ∧ w'.cell? ⟨G, 2, none⟩ = some (.int .i64 nn)) (by kernel_rfl) ⟨c1, c2⟩ (fun hHeld => ?_)
                        refine wpAnyH_take (i := 0) (v := .pointer (some ⟨p, 0, none⟩)) rfl (by kernel_rfl) (by kernel_rfl) (by kernel_rfl) (fun _ _ _ h => h) (Or.inl ⟨by rfl, (by intro w hSw; (try dsimp only at hSw); go_simp)⟩) (by assumption) ?_
                        try simp only [Act.put, List.getElem_toArray, List.getElem_cons_zero, List.getElem_cons_succ, List.setIfInBounds_toArray, List.set_cons_zero, List.set_cons_succ]
                        refine wpAnyH_take (i := 1) (v := .pointer (some ⟨G, 2, none⟩)) rfl (by kernel_rfl) (by kernel_rfl) (by kernel_rfl) (fun _ _ _ h => h) (Or.inl ⟨by rfl, (by intro w hSw; (try dsimp only at hSw); go_simp)⟩) (by assumption) ?_
                        try simp only [Act.put, List.getElem_toArray, List.getElem_cons_zero, List.getElem_cons_succ, List.setIfInBounds_toArray, List.set_cons_zero, List.set_cons_succ]
                        refine wpAnyH_take (i := 2) (v := .int .i64 nn) rfl (by kernel_rfl) (by kernel_rfl) (by kernel_rfl) (fun _ _ _ h => h) (Or.inl ⟨by rfl, (by intro w hSw; (try dsimp only at hSw); go_simp)⟩) (by assumption) ?_
                        try simp only [Act.put, List.getElem_toArray, List.getElem_cons_zero, List.getElem_cons_succ, List.setIfInBounds_toArray, List.set_cons_zero, List.set_cons_succ]
                        refine wpAnyH_take (i := 3) (v := .pointer (some ⟨G, 1, none⟩)) rfl (by kernel_rfl) (by kernel_rfl) (by kernel_rfl) (fun _ _ _ h => h) (Or.inl ⟨by rfl, (by intro w hSw; (try dsimp only at hSw); go_simp)⟩) (by assumption) ?_
                        try simp only [Act.put, List.getElem_toArray, List.getElem_cons_zero, List.getElem_cons_succ, List.setIfInBounds_toArray, List.set_cons_zero, List.set_cons_succ]
                        refine wpAnyH_take (i := 4) (v := .slice ba bn bc) rfl (by kernel_rfl) (by kernel_rfl) (by kernel_rfl) (fun _ _ _ h => h) (Or.inl ⟨by rfl, (by intro w hSw; (try dsimp only at hSw); go_simp)⟩) (by assumption) ?_
                        try simp only [Act.put, List.getElem_toArray, List.getElem_cons_zero, List.getElem_cons_succ, List.setIfInBounds_toArray, List.set_cons_zero, List.set_cons_succ]
                        refine wpAnyH_take (i := 7) (v := .pointer (some ⟨r, 0, none⟩)) rfl (by kernel_rfl) (by kernel_rfl) (by kernel_rfl) (fun _ _ _ h => h) (Or.inl ⟨by rfl, (by intro w hSw; (try dsimp only at hSw); go_simp)⟩) (by assumption) ?_
                        try simp only [Act.put, List.getElem_toArray, List.getElem_cons_zero, List.getElem_cons_succ, List.setIfInBounds_toArray, List.set_cons_zero, List.set_cons_succ]
                        refine wpAnyH_take (i := 8) (v := .pointer (some ⟨G, 2, none⟩)) rfl (by kernel_rfl) (by kernel_rfl) (by kernel_rfl) (fun _ _ _ h => h) (Or.inl ⟨by rfl, (by intro w hSw; (try dsimp only at hSw); go_simp)⟩) (by assumption) ?_
                        try simp only [Act.put, List.getElem_toArray, List.getElem_cons_zero, List.getElem_cons_succ, List.setIfInBounds_toArray, List.set_cons_zero, List.set_cons_succ]
                        refine wpAnyH_take (i := 9) (v := .int .i64 nn) rfl (by kernel_rfl) (by kernel_rfl) (by kernel_rfl) (fun _ _ _ h => h) (Or.inl ⟨by rfl, (by intro w hSw; (try dsimp only at hSw); go_simp)⟩) (by assumption) ?_
                        try simp only [Act.put, List.getElem_toArray, List.getElem_cons_zero, List.getElem_cons_succ, List.setIfInBounds_toArray, List.set_cons_zero, List.set_cons_succ]
                        refine wpAnyH_take (i := 10) (v := .pointer (some ⟨G, 1, none⟩)) rfl (by kernel_rfl) (by kernel_rfl) (by kernel_rfl) (fun _ _ _ h => h) (Or.inl ⟨by rfl, (by intro w hSw; (try dsimp only at hSw); go_simp)⟩) (by assumption) ?_
                        try simp only [Act.put, List.getElem_toArray, List.getElem_cons_zero, List.getElem_cons_succ, List.setIfInBounds_toArray, List.set_cons_zero, List.set_cons_succ]
                        refine wpAnyH_take (i := 11) (v := .slice ba bn bc) rfl (by kernel_rfl) (by kernel_rfl) (by kernel_rfl) (fun _ _ _ h => h) (Or.inl ⟨by rfl, (by intro w hSw; (try dsimp only at hSw); go_simp)⟩) (by assumption) ?_
                        try simp only [Act.put, List.getElem_toArray, List.getElem_cons_zero, List.getElem_cons_succ, List.setIfInBounds_toArray, List.set_cons_zero, List.set_cons_succ]
                        refine wpAnyH_ready (rs := [5]) (by kernel_rfl) (by simp) (AllReadyH.cons rfl (fun K hK => ?_) AllReadyH.nil)
                        try simp only [List.getElem_toArray, List.getElem_cons_zero, List.getElem_cons_succ]
                        go_simp
                        go_at_call 22
                        have hd5 := H4.out.2.old (drew_below wc)
                        have kb5 := H4.out.1.below (drew_below wc) H4.out.1.lt
                        refine (first_any (HC.out.2.1.keep hd5.below.size (fun b hb _ => hd5.below.block b hb)) (fun b hb => Nat.lt_of_lt_of_le hb hd5.below.size) (by omega)).mono ?_
                        rintro e w5 ⟨rfl, hb5⟩
                        rw [HX.out.1]
                        have kb6 := kb5.below hb5 kb5.lt
                        have s5 : w5.cell? ⟨G, 1, none⟩ = some (.slice ba bn bc) ∧ w5.cell? ⟨G, 2, none⟩ = some (.int .i64 nn) := ⟨kb6.cell 1, kb6.cell 2⟩
                        have H5 := Lib.hid (And.intro (hd5.old hb5) kb6)
                        clear hd5 kb5 kb6 hb5 c0 c1 c2 hHeld
                        go_wp2_with fail
                        refine hK.out _ _ s5 (fun hHeld => ?_)
                        clear hK K
                        try simp only [Act.put, List.getElem_toArray, List.getElem_cons_zero, List.getElem_cons_succ, List.setIfInBounds_toArray, List.set_cons_zero, List.set_cons_succ]
                        refine wpAnyH_ready (rs := [6]) (by kernel_rfl) (by simp) (AllReadyH.cons rfl (fun K hK => ?_) AllReadyH.nil)
                        try simp only [List.getElem_toArray, List.getElem_cons_zero, List.getElem_cons_succ]
                        go_simp
                        go_at_call 21
                        refine (b_write (z := nn) H5.out.1 HX.out.2.1 HX.out.2.2).mono ?_
                        rintro e w6 ⟨rfl, hd6, hk6⟩
                        rw [HE.out]
                        have kb6 := hk6 G _ H5.out.2
                        have s6 : w6.cell? ⟨G, 1, none⟩ = some (.slice ba bn bc) ∧ w6.cell? ⟨G, 2, none⟩ = some (.int .i64 nn) := ⟨kb6.cell 1, kb6.cell 2⟩
                        have H6 := Lib.hid (And.intro hd6 kb6)
                        clear hd6 kb6 hk6 s5 hHeld
                        go_wp2_with fail
                        refine hK.out _ _ s6 (fun hHeld => ?_)
                        clear hK K
                        try simp only [Act.put, List.getElem_toArray, List.getElem_cons_zero, List.getElem_cons_succ, List.setIfInBounds_toArray, List.set_cons_zero, List.set_cons_succ]
                        refine wpAnyH_ready (rs := [12]) (by kernel_rfl) (by simp) (AllReadyH.cons rfl (fun K hK => ?_) AllReadyH.nil)
                        try simp only [List.getElem_toArray, List.getElem_cons_zero, List.getElem_cons_succ]
                        go_simp
                        go_at_call 22
                        have hd6 := H6.out.1
                        refine (first_any (HC.out.2.1.keep hd6.below.size (fun b hb _ => hd6.below.block b hb)) (fun b hb => Nat.lt_of_lt_of_le hb hd6.below.size) (by omega)).mono ?_
                        rintro e w7 ⟨rfl, hb7⟩
                        rw [HX.out.1]
                        have kb7 := H6.out.2.below hb7 H6.out.2.lt
                        have s7 : w7.cell? ⟨G, 1, none⟩ = some (.slice ba bn bc) ∧ w7.cell? ⟨G, 2, none⟩ = some (.int .i64 nn) := ⟨kb7.cell 1, kb7.cell 2⟩
                        have H7 := Lib.hid (And.intro (hd6.old hb7) kb7)
                        clear hd6 kb7 hb7 s6 hHeld
                        go_wp2_with fail
                        refine hK.out _ _ s7 (fun hHeld => ?_)
                        clear hK K
                        try simp only [Act.put, List.getElem_toArray, List.getElem_cons_zero, List.getElem_cons_succ, List.setIfInBounds_toArray, List.set_cons_zero, List.set_cons_succ]
                        refine wpAnyH_ready (rs := [13]) (by kernel_rfl) (by simp) (AllReadyH.cons rfl (fun K hK => ?_) AllReadyH.nil)
                        try simp only [List.getElem_toArray, List.getElem_cons_zero, List.getElem_cons_succ]
                        go_simp
                        go_at_call 23
                        refine (b_rwrite (z := nn) H7.out.1 HX.out.2.1 HX.out.2.2).mono ?_
                        rintro e w8 ⟨rfl, hd8, hk8⟩
                        rw [HE.out]
                        have kb8 := hk8 G _ H7.out.2
                        have s8 : w8.cell? ⟨G, 1, none⟩ = some (.slice ba bn bc) ∧ w8.cell? ⟨G, 2, none⟩ = some (.int .i64 nn) := ⟨kb8.cell 1, kb8.cell 2⟩
                        have H8 : Hid (Mid w B p bb mb r fr m j k life (i + 1) G #[.int .i64 5, .slice ba bn bc, .int .i64 nn, .slice fa fn fc] w8) := Lib.hid ⟨_, L, used, hd8, HF.out.le (Nat.le_succ i), kb8⟩
                        clear hd8 kb8 hk8 s7 hHeld
                        go_wp2_with fail
                        refine hK.out _ _ s8 (fun hHeld => ?_)
                        clear hK K
                        try simp only [Act.put, List.getElem_toArray, List.getElem_cons_zero, List.getElem_cons_succ, List.setIfInBounds_toArray, List.set_cons_zero, List.set_cons_succ]
                        have q5 : (E == E) = true := by simp
                        refine wpAnyH_take (i := 14) (v := .bool true) rfl (by kernel_rfl) (by kernel_rfl) (by kernel_rfl) (fun _ _ _ h => h) (Or.inl ⟨by rfl, (by intro w hSw; (try dsimp only at hSw); go_simp)⟩) (by assumption) ?_
                        try simp only [Act.put, List.getElem_toArray, List.getElem_cons_zero, List.getElem_cons_succ, List.setIfInBounds_toArray, List.set_cons_zero, List.set_cons_succ]
                        refine wpAnyH_take (i := 15) (v := .bool true) rfl (by kernel_rfl) (by kernel_rfl) (by kernel_rfl) (fun _ _ _ h => h) (Or.inl ⟨by rfl, (by intro w hSw; (try dsimp only at hSw); go_simp)⟩) (by assumption) ?_
                        try simp only [Act.put, List.getElem_toArray, List.getElem_cons_zero, List.getElem_cons_succ, List.setIfInBounds_toArray, List.set_cons_zero, List.set_cons_succ]
                        refine wpAnyH_done (by kernel_rfl) ?_ _
                        clear s8 hHeld q5
                        go_wp2
                        go_meet
                        case rel => exact ⟨rfl, H8⟩
                    · as_aux_lemma =>
                        have k5' : (ki == 5) = false := by simp; exact k5
                        have H6 : Hid (Mid w B p bb mb r fr m j k life (i + 1) G #[.int .i64 ki, .slice ba bn bc, .int .i64 nn, .slice fa fn fc] wc) := Lib.hid ⟨_, L, used, H4.out.2, HF.out.le (Nat.le_succ i), H4.out.1⟩
                        clear k1 k2 k46 k5
                        go_wp2
                        go_meet
                        case rel => exact ⟨rfl, H6⟩
-- REST
            case rest =>
            obtain ⟨rfl, HM⟩ := hcut
            clear H4 c0 c1 HCC HF
            obtain ⟨A, L, used, hD, hF, hcl⟩ := HM.out
            have c0 : wc.cell? ⟨G, 0, none⟩ = some (.int .i64 ki) := hcl.cell 0
            clear hD hF hcl
            go_upto_if 142 with (fail)
            go_cut [18] (fun v wx => v = .bool true ∧ Hid (Mid w B p bb mb r fr m j k life (i + 1) G #[.int .i64 ki, .slice ba bn bc, .int .i64 nn, .slice fa fn fc] wx))
            case first => as_aux_lemma =>
              by_cases k4 : ki = 4
              · as_aux_lemma =>
                  subst k4
                  go_wp2_with fail
                  obtain ⟨A, L, used, hD, hF, hcl⟩ := HM.out
                  refine (b_start hD).mono ?_
                  rintro e w5 ⟨rfl, hd5, hk5⟩
                  have H5 := Lib.hid (And.intro hd5 (And.intro hF (hk5 G _ hcl)))
                  clear hD hF hcl hd5 hk5 c0 HM
                  go_wp2_with fail
                  refine (b_rstart H5.out.1).mono ?_
                  rintro e w6 ⟨rfl, hd6, hk6⟩
                  have H6 : Hid (Mid w B p bb mb r fr m j k life (i + 1) G #[.int .i64 4, .slice ba bn bc, .int .i64 nn, .slice fa fn fc] w6) := Lib.hid ⟨_, L, used, hd6, H5.out.2.1, hk6 G _ H5.out.2.2⟩
                  clear hd6 hk6 H5
                  go_wp2
                  go_meet
                  case rel => exact ⟨rfl, H6⟩
              · have k4' : (ki == 4) = false := by simp; exact k4
                go_wp2
                go_meet
                case rel => exact ⟨rfl, HM⟩
            case rest =>
            obtain ⟨rfl, HM2⟩ := hcut
            clear HM c0
            obtain ⟨A2, L2, used2, hD, hF, hcl⟩ := HM2.out
            have c0 : wc.cell? ⟨G, 0, none⟩ = some (.int .i64 ki) := hcl.cell 0
            clear hD hF hcl
            go_upto_region 32 with (fail)
            go_cut [154] (fun v wx => ∃ b : Bool, v = .bool b ∧ wx = wc)
            case first => as_aux_lemma =>
              by_cases k3 : ki = 3
              · as_aux_lemma =>
                  subst k3
                  go_wp2
                  go_meet
                  case rel => exact ⟨true, rfl, rfl⟩
              · have k3' : (ki == 3) = false := by simp; exact k3
                by_cases k4 : ki = 4
                · as_aux_lemma =>
                    subst k4
                    go_wp2
                    go_meet
                    case rel => exact ⟨true, rfl, rfl⟩
                · have k4' : (ki == 4) = false := by simp; exact k4
                  go_wp2
                  go_meet
                  case rel => exact ⟨false, rfl, rfl⟩
            case rest =>
            obtain ⟨b, rfl, rfl⟩ := hcut
            go_upto_if 154 with (fail)
            go_cut [12, 14] (fun vj vk wx => Hid (Lp w B p bb mb r fr m vj vk (i + 1) wx))
            case first => as_aux_lemma =>
              clear c0
              cases b with
              | false =>
                have H5 : Hid (Lp w B p bb mb r fr m (.pointer (some ⟨j, 0, none⟩)) (.pointer (some ⟨k, 0, none⟩)) (i + 1) wc) := Lib.hid (by obtain ⟨A, L, used, hD, hF, hcl⟩ := HM2.out; exact ⟨j, k, A, L, used, life, rfl, rfl, hD, hF⟩)
                clear HM2
                go_wp2
                go_meet
                case rel => exact H5
              | true =>
                obtain ⟨A, L, used, hD, hF, hcl⟩ := HM2.out
                have HD := Lib.hid (And.intro hD hF)
                clear hD hF hcl HM2
                obtain ⟨x, hx⟩ : ∃ x, A.down = x := ⟨_, rfl⟩
                have HDN := Lib.hid hx
                clear hx
                cases x with
                | true =>
                  go_wp2_with fail
                  refine (open_down HD.out.1.d HDN.out hfm).mono ?_
                  rintro e w5 ⟨rfl, rfl⟩
                  go_wp2_with fail
                  obtain ⟨vL, vN, vD, hr⟩ := HD.out.1.rk
                  refine (ropen_down hr HDN.out hfm).mono ?_
                  rintro e w5 ⟨rfl, rfl⟩
                  clear hr
                  go_wp2
                  go_ret
                  exact ⟨rfl, HD.out.1.below⟩
                | false =>
                  go_wp2_with fail
                  refine (b_open HD.out.1 HDN.out hfm).mono ?_
                  rintro e w5 ⟨j2, rfl, hd5, hk5⟩
                  have H5 := Lib.hid hd5
                  clear hd5 hk5
                  go_wp2_with fail
                  refine (b_ropen H5.out HDN.out hfm).mono ?_
                  rintro e w6 ⟨k2, rfl, hd6, hk6⟩
                  have H6 : Hid (Lp w B p bb mb r fr m (.pointer (some ⟨j2, 0, none⟩)) (.pointer (some ⟨k2, 0, none⟩)) (i + 1) w6) := Lib.hid ⟨j2, k2, A, _, _, _, rfl, rfl, hd6, (op_fit A hfm).le (Nat.zero_le _)⟩
                  clear hd6 hk6 H5
                  go_wp2
                  go_meet
                  case rel => exact H6
            case rest => as_aux_lemma =>
              obtain ⟨j2, k2, A, L, used, life2, rfl, rfl, hD, hF⟩ := hcut.out
              have HD := Lib.hid hD
              have HF := Lib.hid hF
              clear hcut hD hF HM2
              go_upto_region 41 with (fail)
              obtain ⟨vk2, hrj⟩ := HD.out.rj
              have hklt : k2 < wc.heap.size := hrj.cells.lt
              obtain ⟨q2, cq, rfl, hpt⟩ := hrj.recs.parts
              have c5 : wc.cell? ⟨k2, 5, none⟩ = some (.slice q2 L.length cq) := hrj.c5
              have hnl : L.length ≤ 100000 := by have := HF.out.many; omega
              obtain ⟨N, hN⟩ : ∃ N, L.length = N := ⟨_, rfl⟩
              rw [hN] at c5 hnl hpt
              have HPT := Lib.hid (And.intro hpt (And.intro hN hklt))
              clear hpt hN hrj hklt c0
              refine wp_region_held_drew (S := fun w' => w'.cell? ⟨k2, 5, none⟩ = some (.slice q2 N cq)) (by kernel_rfl) c5 (fun hHeld => ?_)
              refine wpAnyH_take (i := 0) (v := .pointer (some ⟨j2, 0, none⟩)) rfl (by kernel_rfl) (by kernel_rfl) (by kernel_rfl) (fun _ _ _ h => h) (Or.inl ⟨by rfl, (by intro w hSw; (try dsimp only at hSw); go_simp)⟩) (by assumption) ?_
              try simp only [Act.put, List.getElem_toArray, List.getElem_cons_zero, List.getElem_cons_succ, List.setIfInBounds_toArray, List.set_cons_zero, List.set_cons_succ]
              refine wpAnyH_take (i := 2) (v := .pointer (some ⟨k2, 0, none⟩)) rfl (by kernel_rfl) (by kernel_rfl) (by kernel_rfl) (fun _ _ _ h => h) (Or.inl ⟨by rfl, (by intro w hSw; (try dsimp only at hSw); go_simp)⟩) (by assumption) ?_
              try simp only [Act.put, List.getElem_toArray, List.getElem_cons_zero, List.getElem_cons_succ, List.setIfInBounds_toArray, List.set_cons_zero, List.set_cons_succ]
              refine wpAnyH_take (i := 3) (v := .pointer (some ⟨k2, 0, none⟩)) rfl (by kernel_rfl) (by kernel_rfl) (by kernel_rfl) (fun _ _ _ h => h) (Or.inl ⟨by rfl, (by intro w hSw; (try dsimp only at hSw); go_simp)⟩) (by assumption) ?_
              try simp only [Act.put, List.getElem_toArray, List.getElem_cons_zero, List.getElem_cons_succ, List.setIfInBounds_toArray, List.set_cons_zero, List.set_cons_succ]
              refine wpAnyH_take (i := 4) (v := .pointer (some ⟨k2, 5, none⟩)) rfl (by kernel_rfl) (by kernel_rfl) (by kernel_rfl) (fun _ _ _ h => h) (Or.inl ⟨by rfl, (by intro w hSw; (try dsimp only at hSw); go_simp)⟩) (by assumption) ?_
              try simp only [Act.put, List.getElem_toArray, List.getElem_cons_zero, List.getElem_cons_succ, List.setIfInBounds_toArray, List.set_cons_zero, List.set_cons_succ]
              refine wpAnyH_take (i := 5) (v := .slice q2 N cq) rfl (by kernel_rfl) (by kernel_rfl) (by kernel_rfl) (fun _ _ _ h => h) (Or.inl ⟨by rfl, (by intro w hSw; (try dsimp only at hSw); go_simp)⟩) (by assumption) ?_
              try simp only [Act.put, List.getElem_toArray, List.getElem_cons_zero, List.getElem_cons_succ, List.setIfInBounds_toArray, List.set_cons_zero, List.set_cons_succ]
              refine wpAnyH_ready (rs := [1]) (by kernel_rfl) (by simp) (AllReadyH.cons rfl (fun K hK => ?_) AllReadyH.nil)
              try simp only [List.getElem_toArray, List.getElem_cons_zero, List.getElem_cons_succ]
              go_simp
              go_at_call 27
              have hdd := HD.out.old (drew_below wc)
              obtain ⟨vj2, hjr⟩ := hdd.jr
              refine (jRecords_any hjr (HF.out.sh (by omega))).mono ?_
              rintro e w7 ⟨g7, rfl, hp7, hb7⟩
              rw [HPT.out.2.1] at hp7 ⊢
              have hb17 : Below wc.heap.size wc w7 := (drew_below wc).trans (hb7.mono (Nat.le_refl _))
              have H7 := Lib.hid (And.intro (hdd.old hb7) (And.intro hp7 (HPT.out.1.below hb17)))
              have c7 : w7.cell? ⟨k2, 5, none⟩ = some (.slice q2 N cq) := (World.cell?_of_block (w := wc) (hb17.block k2 HPT.out.2.2)).trans c5
              clear hdd hjr hp7 hb7 hb17 c5 hHeld
              go_wp2_with fail
              refine hK.out _ _ c7 (fun hHeld => ?_)
              clear hK K
              try simp only [Act.put, List.getElem_toArray, List.getElem_cons_zero, List.getElem_cons_succ, List.setIfInBounds_toArray, List.set_cons_zero, List.set_cons_succ]
              refine wpAnyH_ready (rs := [6]) (by kernel_rfl) (by simp) (AllReadyH.cons rfl (fun K hK => ?_) AllReadyH.nil)
              try simp only [List.getElem_toArray, List.getElem_cons_zero, List.getElem_cons_succ]
              go_simp
              go_at_call 26
              refine (sameR_any H7.out.2.1 H7.out.2.2 hnl).mono ?_
              rintro e w8 ⟨rfl, qn, rfl⟩
              have c8 : (w7.drewN qn).cell? ⟨k2, 5, none⟩ = some (.slice q2 N cq) := c7
              have H8 := Lib.hid (H7.out.1.old (below_drewN (Below.refl _ _) qn))
              generalize w7.drewN qn = w8 at *
              clear c7 H7 hHeld
              go_wp2_with fail
              refine hK.out _ _ c8 (fun hHeld => ?_)
              clear hK K
              try simp only [Act.put, List.getElem_toArray, List.getElem_cons_zero, List.getElem_cons_succ, List.setIfInBounds_toArray, List.set_cons_zero, List.set_cons_succ]
              refine wpAnyH_take (i := 7) (v := .bool true) rfl (by kernel_rfl) (by kernel_rfl) (by kernel_rfl) (fun _ _ _ h => h) (Or.inl ⟨by rfl, (by intro w hSw; (try dsimp only at hSw); go_simp)⟩) (by assumption) ?_
              try simp only [Act.put, List.getElem_toArray, List.getElem_cons_zero, List.getElem_cons_succ, List.setIfInBounds_toArray, List.set_cons_zero, List.set_cons_succ]
              refine wpAnyH_done (by kernel_rfl) ?_ _
              clear c8 hHeld HPT
              go_upto_region 42 with (fail)
              obtain ⟨vL, vN, vD, hr4⟩ := H8.out.rk
              obtain ⟨da, dc, hxD, _⟩ := own_formR hr4.dirty
              subst hxD
              obtain ⟨ia, ic, hie, hit⟩ := own_its hr4.dirty
              have hkf : A.fresh.length = (keys A.fresh).length := by simp [keys]
              have hkm : (keys A.fresh).length ≤ 4096 := by have h1 := hr4.ok.fok.size; omega
              obtain ⟨KK, hKK⟩ : ∃ KK, (keys A.fresh).length = KK := ⟨_, rfl⟩
              rw [hKK] at hie hit hkf hkm hr4
              injection hie with hie1 hie2 hie3
              subst hie1
              have d2 : w8.cell? ⟨r, 2, none⟩ = some (.slice da KK dc) := hr4.c2
              have hrlt : r < w8.heap.size := hr4.cells.lt
              have HR4 := Lib.hid (And.intro hit (And.intro hkf (And.intro hkm (And.intro hKK hrlt))))
              clear hit hkf hkm hKK hie2 hie3 hr4 hrlt
              refine wp_region_held_drew (S := fun w' => w'.cell? ⟨r, 2, none⟩ = some (.slice da KK dc)) (by kernel_rfl) d2 (fun hHeld => ?_)
              refine wpAnyH_take (i := 0) (v := .pointer (some ⟨p, 0, none⟩)) rfl (by kernel_rfl) (by kernel_rfl) (by kernel_rfl) (fun _ _ _ h => h) (Or.inl ⟨by rfl, (by intro w hSw; (try dsimp only at hSw); go_simp)⟩) (by assumption) ?_
              try simp only [Act.put, List.getElem_toArray, List.getElem_cons_zero, List.getElem_cons_succ, List.setIfInBounds_toArray, List.set_cons_zero, List.set_cons_succ]
              refine wpAnyH_take (i := 2) (v := .pointer (some ⟨r, 0, none⟩)) rfl (by kernel_rfl) (by kernel_rfl) (by kernel_rfl) (fun _ _ _ h => h) (Or.inl ⟨by rfl, (by intro w hSw; (try dsimp only at hSw); go_simp)⟩) (by assumption) ?_
              try simp only [Act.put, List.getElem_toArray, List.getElem_cons_zero, List.getElem_cons_succ, List.setIfInBounds_toArray, List.set_cons_zero, List.set_cons_succ]
              refine wpAnyH_take (i := 3) (v := .pointer (some ⟨r, 0, none⟩)) rfl (by kernel_rfl) (by kernel_rfl) (by kernel_rfl) (fun _ _ _ h => h) (Or.inl ⟨by rfl, (by intro w hSw; (try dsimp only at hSw); go_simp)⟩) (by assumption) ?_
              try simp only [Act.put, List.getElem_toArray, List.getElem_cons_zero, List.getElem_cons_succ, List.setIfInBounds_toArray, List.set_cons_zero, List.set_cons_succ]
              refine wpAnyH_take (i := 4) (v := .pointer (some ⟨r, 2, none⟩)) rfl (by kernel_rfl) (by kernel_rfl) (by kernel_rfl) (fun _ _ _ h => h) (Or.inl ⟨by rfl, (by intro w hSw; (try dsimp only at hSw); go_simp)⟩) (by assumption) ?_
              try simp only [Act.put, List.getElem_toArray, List.getElem_cons_zero, List.getElem_cons_succ, List.setIfInBounds_toArray, List.set_cons_zero, List.set_cons_succ]
              refine wpAnyH_take (i := 5) (v := .slice da KK dc) rfl (by kernel_rfl) (by kernel_rfl) (by kernel_rfl) (fun _ _ _ h => h) (Or.inl ⟨by rfl, (by intro w hSw; (try dsimp only at hSw); go_simp)⟩) (by assumption) ?_
              try simp only [Act.put, List.getElem_toArray, List.getElem_cons_zero, List.getElem_cons_succ, List.setIfInBounds_toArray, List.set_cons_zero, List.set_cons_succ]
              refine wpAnyH_ready (rs := [1]) (by kernel_rfl) (by simp) (AllReadyH.cons rfl (fun K hK => ?_) AllReadyH.nil)
              try simp only [List.getElem_toArray, List.getElem_cons_zero, List.getElem_cons_succ]
              go_simp
              go_at_call 29
              have hdd := H8.out.old (drew_below w8)
              refine (dirty_any hdd.d).mono ?_
              rintro e v5 ⟨g5, rfl, hg5, _, hb5⟩
              rw [HR4.out.2.1]
              have hi5 : Its v5 (fun _ => True) (some ⟨g5, 0, none⟩) KK (toI (keys A.fresh)) := by
                have := its_whole (l := keys A.fresh) hg5
                rw [HR4.out.2.2.2.1] at this
                exact this
              have hb15 : Below w8.heap.size w8 v5 := (drew_below w8).trans (hb5.mono (Nat.le_refl _))
              have H5 := Lib.hid (And.intro hi5 (And.intro (HR4.out.1.keep hb15.size (fun b hb _ => hb15.block b hb)) (hdd.old hb5)))
              have d5 : v5.cell? ⟨r, 2, none⟩ = some (.slice da KK dc) := (World.cell?_of_block (w := w8) (hb15.block r HR4.out.2.2.2.2)).trans d2
              clear hdd hg5 hb5 hb15 hi5 d2 hHeld
              go_wp2_with fail
              refine hK.out _ _ d5 (fun hHeld => ?_)
              clear hK K
              try simp only [Act.put, List.getElem_toArray, List.getElem_cons_zero, List.getElem_cons_succ, List.setIfInBounds_toArray, List.set_cons_zero, List.set_cons_succ]
              refine wpAnyH_ready (rs := [6]) (by kernel_rfl) (by simp) (AllReadyH.cons rfl (fun K hK => ?_) AllReadyH.nil)
              try simp only [List.getElem_toArray, List.getElem_cons_zero, List.getElem_cons_succ]
              go_simp
              go_at_call 28
              refine (same_any H5.out.1 H5.out.2.1 (by have := HR4.out.2.2.1; unfold maxLen; omega)).mono ?_
              rintro e v6 ⟨rfl, q6, rfl⟩
              have d6 : (v5.drewN q6).cell? ⟨r, 2, none⟩ = some (.slice da KK dc) := d5
              have H6 := Lib.hid (H5.out.2.2.old (below_drewN (Below.refl _ _) q6))
              generalize v5.drewN q6 = v6 at *
              clear H5 d5 hHeld
              go_wp2_with fail
              refine hK.out _ _ d6 (fun hHeld => ?_)
              clear hK K
              try simp only [Act.put, List.getElem_toArray, List.getElem_cons_zero, List.getElem_cons_succ, List.setIfInBounds_toArray, List.set_cons_zero, List.set_cons_succ]
              refine wpAnyH_take (i := 7) (v := .bool true) rfl (by kernel_rfl) (by kernel_rfl) (by kernel_rfl) (fun _ _ _ h => h) (Or.inl ⟨by rfl, (by intro w hSw; (try dsimp only at hSw); go_simp)⟩) (by assumption) ?_
              try simp only [Act.put, List.getElem_toArray, List.getElem_cons_zero, List.getElem_cons_succ, List.setIfInBounds_toArray, List.set_cons_zero, List.set_cons_succ]
              refine wpAnyH_done (by kernel_rfl) ?_ _
              clear d6 hHeld HR4
              go_upto_region 43 with (fail)
              obtain ⟨vk6, hrj6⟩ := H6.out.rj
              have hum := HF.out.used
              have hs6 : v6.cell? ⟨k2, 2, none⟩ = some (.int .i64 (m : Int)) ∧ v6.cell? ⟨k2, 3, none⟩ = some (.int .i64 (life2 : Int)) ∧ v6.cell? ⟨k2, 4, none⟩ = some (.int .i64 (used : Int)) := ⟨hrj6.c2, hrj6.c3, hrj6.c4⟩
              have qs : IntKind.i64.wrap ((m : Int) - (used : Int)) = (m : Int) - (used : Int) := IntWalk.i64_in _ (by omega)
              have qr : ((m - used : Nat) : Int) = (m : Int) - (used : Int) := by omega
              have HQR := Lib.hid qr
              clear hrj6 qr
              refine wp_region_held_drew (S := fun w' => w'.cell? ⟨k2, 2, none⟩ = some (.int .i64 (m : Int)) ∧ w'.cell? ⟨k2, 3, none⟩ = some (.int .i64 (life2 : Int)) ∧ w'.cell? ⟨k2, 4, none⟩ = some (.int .i64 (used : Int))) (by kernel_rfl) hs6 (fun hHeld => ?_)
              refine wpAnyH_take (i := 0) (v := .bool true) rfl (by kernel_rfl) (by kernel_rfl) (by kernel_rfl) (fun _ _ _ h => h) (Or.inl ⟨by rfl, (by intro w hSw; (try dsimp only at hSw); go_simp)⟩) (by assumption) ?_
              try simp only [Act.put, List.getElem_toArray, List.getElem_cons_zero, List.getElem_cons_succ, List.setIfInBounds_toArray, List.set_cons_zero, List.set_cons_succ]
              refine wpAnyH_take (i := 1) (v := .bool false) rfl (by kernel_rfl) (by kernel_rfl) (by kernel_rfl) (fun _ _ _ h => h) (Or.inl ⟨by rfl, (by intro w hSw; (try dsimp only at hSw); go_simp)⟩) (by assumption) ?_
              try simp only [Act.put, List.getElem_toArray, List.getElem_cons_zero, List.getElem_cons_succ, List.setIfInBounds_toArray, List.set_cons_zero, List.set_cons_succ]
              refine wpAnyH_take (i := 2) (v := .bool false) rfl (by kernel_rfl) (by kernel_rfl) (by kernel_rfl) (fun _ _ _ h => h) (Or.inl ⟨by rfl, (by intro w hSw; (try dsimp only at hSw); go_simp)⟩) (by assumption) ?_
              try simp only [Act.put, List.getElem_toArray, List.getElem_cons_zero, List.getElem_cons_succ, List.setIfInBounds_toArray, List.set_cons_zero, List.set_cons_succ]
              refine wpAnyH_take (i := 3) (v := .bool true) rfl (by kernel_rfl) (by kernel_rfl) (by kernel_rfl) (fun _ _ _ h => h) (Or.inl ⟨by rfl, (by intro w hSw; (try dsimp only at hSw); go_simp)⟩) (by assumption) ?_
              try simp only [Act.put, List.getElem_toArray, List.getElem_cons_zero, List.getElem_cons_succ, List.setIfInBounds_toArray, List.set_cons_zero, List.set_cons_succ]
              refine wpAnyH_take (i := 4) (v := .bool false) rfl (by kernel_rfl) (by kernel_rfl) (by kernel_rfl) (fun _ _ _ h => h) (Or.inl ⟨by rfl, (by intro w hSw; (try dsimp only at hSw); go_simp)⟩) (by assumption) ?_
              try simp only [Act.put, List.getElem_toArray, List.getElem_cons_zero, List.getElem_cons_succ, List.setIfInBounds_toArray, List.set_cons_zero, List.set_cons_succ]
              refine wpAnyH_take (i := 5) (v := .bool false) rfl (by kernel_rfl) (by kernel_rfl) (by kernel_rfl) (fun _ _ _ h => h) (Or.inl ⟨by rfl, (by intro w hSw; (try dsimp only at hSw); go_simp)⟩) (by assumption) ?_
              try simp only [Act.put, List.getElem_toArray, List.getElem_cons_zero, List.getElem_cons_succ, List.setIfInBounds_toArray, List.set_cons_zero, List.set_cons_succ]
              refine wpAnyH_take (i := 6) (v := .bool false) rfl (by kernel_rfl) (by kernel_rfl) (by kernel_rfl) (fun _ _ _ h => h) (Or.inl ⟨by rfl, (by intro w hSw; (try dsimp only at hSw); go_simp)⟩) (by assumption) ?_
              try simp only [Act.put, List.getElem_toArray, List.getElem_cons_zero, List.getElem_cons_succ, List.setIfInBounds_toArray, List.set_cons_zero, List.set_cons_succ]
              refine wpAnyH_take (i := 7) (v := .bool true) rfl (by kernel_rfl) (by kernel_rfl) (by kernel_rfl) (fun _ _ _ h => h) (Or.inl ⟨by rfl, (by intro w hSw; (try dsimp only at hSw); go_simp)⟩) (by assumption) ?_
              try simp only [Act.put, List.getElem_toArray, List.getElem_cons_zero, List.getElem_cons_succ, List.setIfInBounds_toArray, List.set_cons_zero, List.set_cons_succ]
              refine wpAnyH_take (i := 8) (v := .bool false) rfl (by kernel_rfl) (by kernel_rfl) (by kernel_rfl) (fun _ _ _ h => h) (Or.inl ⟨by rfl, (by intro w hSw; (try dsimp only at hSw); go_simp)⟩) (by assumption) ?_
              try simp only [Act.put, List.getElem_toArray, List.getElem_cons_zero, List.getElem_cons_succ, List.setIfInBounds_toArray, List.set_cons_zero, List.set_cons_succ]
              refine wpAnyH_take (i := 9) (v := .bool false) rfl (by kernel_rfl) (by kernel_rfl) (by kernel_rfl) (fun _ _ _ h => h) (Or.inl ⟨by rfl, (by intro w hSw; (try dsimp only at hSw); go_simp)⟩) (by assumption) ?_
              try simp only [Act.put, List.getElem_toArray, List.getElem_cons_zero, List.getElem_cons_succ, List.setIfInBounds_toArray, List.set_cons_zero, List.set_cons_succ]
              refine wpAnyH_take (i := 10) (v := .bool false) rfl (by kernel_rfl) (by kernel_rfl) (by kernel_rfl) (fun _ _ _ h => h) (Or.inl ⟨by rfl, (by intro w hSw; (try dsimp only at hSw); go_simp)⟩) (by assumption) ?_
              try simp only [Act.put, List.getElem_toArray, List.getElem_cons_zero, List.getElem_cons_succ, List.setIfInBounds_toArray, List.set_cons_zero, List.set_cons_succ]
              refine wpAnyH_take (i := 11) (v := .pointer (some ⟨j2, 0, none⟩)) rfl (by kernel_rfl) (by kernel_rfl) (by kernel_rfl) (fun _ _ _ h => h) (Or.inl ⟨by rfl, (by intro w hSw; (try dsimp only at hSw); go_simp)⟩) (by assumption) ?_
              try simp only [Act.put, List.getElem_toArray, List.getElem_cons_zero, List.getElem_cons_succ, List.setIfInBounds_toArray, List.set_cons_zero, List.set_cons_succ]
              refine wpAnyH_take (i := 13) (v := .pointer (some ⟨k2, 0, none⟩)) rfl (by kernel_rfl) (by kernel_rfl) (by kernel_rfl) (fun _ _ _ h => h) (Or.inl ⟨by rfl, (by intro w hSw; (try dsimp only at hSw); go_simp)⟩) (by assumption) ?_
              try simp only [Act.put, List.getElem_toArray, List.getElem_cons_zero, List.getElem_cons_succ, List.setIfInBounds_toArray, List.set_cons_zero, List.set_cons_succ]
              refine wpAnyH_take (i := 14) (v := .pointer (some ⟨k2, 0, none⟩)) rfl (by kernel_rfl) (by kernel_rfl) (by kernel_rfl) (fun _ _ _ h => h) (Or.inl ⟨by rfl, (by intro w hSw; (try dsimp only at hSw); go_simp)⟩) (by assumption) ?_
              try simp only [Act.put, List.getElem_toArray, List.getElem_cons_zero, List.getElem_cons_succ, List.setIfInBounds_toArray, List.set_cons_zero, List.set_cons_succ]
              refine wpAnyH_take (i := 15) (v := .pointer (some ⟨k2, 2, none⟩)) rfl (by kernel_rfl) (by kernel_rfl) (by kernel_rfl) (fun _ _ _ h => h) (Or.inl ⟨by rfl, (by intro w hSw; (try dsimp only at hSw); go_simp)⟩) (by assumption) ?_
              try simp only [Act.put, List.getElem_toArray, List.getElem_cons_zero, List.getElem_cons_succ, List.setIfInBounds_toArray, List.set_cons_zero, List.set_cons_succ]
              refine wpAnyH_take (i := 16) (v := .int .i64 (m : Int)) rfl (by kernel_rfl) (by kernel_rfl) (by kernel_rfl) (fun _ _ _ h => h) (Or.inl ⟨by rfl, (by intro w hSw; (try dsimp only at hSw); go_simp)⟩) (by assumption) ?_
              try simp only [Act.put, List.getElem_toArray, List.getElem_cons_zero, List.getElem_cons_succ, List.setIfInBounds_toArray, List.set_cons_zero, List.set_cons_succ]
              refine wpAnyH_take (i := 17) (v := .pointer (some ⟨k2, 0, none⟩)) rfl (by kernel_rfl) (by kernel_rfl) (by kernel_rfl) (fun _ _ _ h => h) (Or.inl ⟨by rfl, (by intro w hSw; (try dsimp only at hSw); go_simp)⟩) (by assumption) ?_
              try simp only [Act.put, List.getElem_toArray, List.getElem_cons_zero, List.getElem_cons_succ, List.setIfInBounds_toArray, List.set_cons_zero, List.set_cons_succ]
              refine wpAnyH_take (i := 18) (v := .pointer (some ⟨k2, 0, none⟩)) rfl (by kernel_rfl) (by kernel_rfl) (by kernel_rfl) (fun _ _ _ h => h) (Or.inl ⟨by rfl, (by intro w hSw; (try dsimp only at hSw); go_simp)⟩) (by assumption) ?_
              try simp only [Act.put, List.getElem_toArray, List.getElem_cons_zero, List.getElem_cons_succ, List.setIfInBounds_toArray, List.set_cons_zero, List.set_cons_succ]
              refine wpAnyH_take (i := 19) (v := .pointer (some ⟨k2, 4, none⟩)) rfl (by kernel_rfl) (by kernel_rfl) (by kernel_rfl) (fun _ _ _ h => h) (Or.inl ⟨by rfl, (by intro w hSw; (try dsimp only at hSw); go_simp)⟩) (by assumption) ?_
              try simp only [Act.put, List.getElem_toArray, List.getElem_cons_zero, List.getElem_cons_succ, List.setIfInBounds_toArray, List.set_cons_zero, List.set_cons_succ]
              refine wpAnyH_take (i := 20) (v := .int .i64 (used : Int)) rfl (by kernel_rfl) (by kernel_rfl) (by kernel_rfl) (fun _ _ _ h => h) (Or.inl ⟨by rfl, (by intro w hSw; (try dsimp only at hSw); go_simp)⟩) (by assumption) ?_
              try simp only [Act.put, List.getElem_toArray, List.getElem_cons_zero, List.getElem_cons_succ, List.setIfInBounds_toArray, List.set_cons_zero, List.set_cons_succ]
              refine wpAnyH_take (i := 21) (v := .int .i64 ((m : Int) - (used : Int))) rfl (by kernel_rfl) (by kernel_rfl) (by kernel_rfl) (fun _ _ _ h => h) (Or.inl ⟨by rfl, (by intro w hSw; (try dsimp only at hSw); go_simp)⟩) (by assumption) ?_
              try simp only [Act.put, List.getElem_toArray, List.getElem_cons_zero, List.getElem_cons_succ, List.setIfInBounds_toArray, List.set_cons_zero, List.set_cons_succ]
              refine wpAnyH_ready (rs := [12]) (by kernel_rfl) (by simp) (AllReadyH.cons rfl (fun K hK => ?_) AllReadyH.nil)
              try simp only [List.getElem_toArray, List.getElem_cons_zero, List.getElem_cons_succ]
              go_simp
              go_at_call 30
              obtain ⟨vj6, hjr6⟩ := (H6.out.old (drew_below v6)).jr
              refine (jRoom_any hjr6).mono ?_
              rintro e v7 ⟨rfl, rfl⟩
              rw [HQR.out]
              clear hjr6 qs
              go_wp2_with fail
              refine hK.out _ _ hHeld (fun hHeld => ?_)
              clear hK K
              try simp only [Act.put, List.getElem_toArray, List.getElem_cons_zero, List.getElem_cons_succ, List.setIfInBounds_toArray, List.set_cons_zero, List.set_cons_succ]
              have qn : ((m : Int) - (used : Int) != (m : Int) - (used : Int)) = false := by simp
              refine wpAnyH_take (i := 22) (v := .bool false) rfl (by kernel_rfl) (by kernel_rfl) (by kernel_rfl) (fun _ _ _ h => h) (Or.inl ⟨by rfl, (by intro w hSw; (try dsimp only at hSw); go_simp)⟩) (by assumption) ?_
              try simp only [Act.put, List.getElem_toArray, List.getElem_cons_zero, List.getElem_cons_succ, List.setIfInBounds_toArray, List.set_cons_zero, List.set_cons_succ]
              refine wpAnyH_take (i := 23) (v := .bool false) rfl (by kernel_rfl) (by kernel_rfl) (by kernel_rfl) (fun _ _ _ h => h) (Or.inl ⟨by rfl, (by intro w hSw; (try dsimp only at hSw); go_simp)⟩) (by assumption) ?_
              try simp only [Act.put, List.getElem_toArray, List.getElem_cons_zero, List.getElem_cons_succ, List.setIfInBounds_toArray, List.set_cons_zero, List.set_cons_succ]
              refine wpAnyH_take (i := 24) (v := .bool false) rfl (by kernel_rfl) (by kernel_rfl) (by kernel_rfl) (fun _ _ _ h => h) (Or.inl ⟨by rfl, (by intro w hSw; (try dsimp only at hSw); go_simp)⟩) (by assumption) ?_
              try simp only [Act.put, List.getElem_toArray, List.getElem_cons_zero, List.getElem_cons_succ, List.setIfInBounds_toArray, List.set_cons_zero, List.set_cons_succ]
              refine wpAnyH_take (i := 25) (v := .pointer (some ⟨j2, 0, none⟩)) rfl (by kernel_rfl) (by kernel_rfl) (by kernel_rfl) (fun _ _ _ h => h) (Or.inl ⟨by rfl, (by intro w hSw; (try dsimp only at hSw); go_simp)⟩) (by assumption) ?_
              try simp only [Act.put, List.getElem_toArray, List.getElem_cons_zero, List.getElem_cons_succ, List.setIfInBounds_toArray, List.set_cons_zero, List.set_cons_succ]
              refine wpAnyH_take (i := 27) (v := .pointer (some ⟨k2, 0, none⟩)) rfl (by kernel_rfl) (by kernel_rfl) (by kernel_rfl) (fun _ _ _ h => h) (Or.inl ⟨by rfl, (by intro w hSw; (try dsimp only at hSw); go_simp)⟩) (by assumption) ?_
              try simp only [Act.put, List.getElem_toArray, List.getElem_cons_zero, List.getElem_cons_succ, List.setIfInBounds_toArray, List.set_cons_zero, List.set_cons_succ]
              refine wpAnyH_take (i := 28) (v := .pointer (some ⟨k2, 0, none⟩)) rfl (by kernel_rfl) (by kernel_rfl) (by kernel_rfl) (fun _ _ _ h => h) (Or.inl ⟨by rfl, (by intro w hSw; (try dsimp only at hSw); go_simp)⟩) (by assumption) ?_
              try simp only [Act.put, List.getElem_toArray, List.getElem_cons_zero, List.getElem_cons_succ, List.setIfInBounds_toArray, List.set_cons_zero, List.set_cons_succ]
              refine wpAnyH_take (i := 29) (v := .pointer (some ⟨k2, 3, none⟩)) rfl (by kernel_rfl) (by kernel_rfl) (by kernel_rfl) (fun _ _ _ h => h) (Or.inl ⟨by rfl, (by intro w hSw; (try dsimp only at hSw); go_simp)⟩) (by assumption) ?_
              try simp only [Act.put, List.getElem_toArray, List.getElem_cons_zero, List.getElem_cons_succ, List.setIfInBounds_toArray, List.set_cons_zero, List.set_cons_succ]
              refine wpAnyH_take (i := 30) (v := .int .i64 (life2 : Int)) rfl (by kernel_rfl) (by kernel_rfl) (by kernel_rfl) (fun _ _ _ h => h) (Or.inl ⟨by rfl, (by intro w hSw; (try dsimp only at hSw); go_simp)⟩) (by assumption) ?_
              try simp only [Act.put, List.getElem_toArray, List.getElem_cons_zero, List.getElem_cons_succ, List.setIfInBounds_toArray, List.set_cons_zero, List.set_cons_succ]
              refine wpAnyH_ready (rs := [26]) (by kernel_rfl) (by simp) (AllReadyH.cons rfl (fun K hK => ?_) AllReadyH.nil)
              try simp only [List.getElem_toArray, List.getElem_cons_zero, List.getElem_cons_succ]
              go_simp
              go_at_call 31
              obtain ⟨vj7, hjr7⟩ := (H6.out.old (drew_below v6)).jr
              refine (jLife_any hjr7).mono ?_
              rintro e v7 ⟨rfl, rfl⟩
              clear hjr7
              go_wp2_with fail
              refine hK.out _ _ hHeld (fun hHeld => ?_)
              clear hK K
              try simp only [Act.put, List.getElem_toArray, List.getElem_cons_zero, List.getElem_cons_succ, List.setIfInBounds_toArray, List.set_cons_zero, List.set_cons_succ]
              have ql : ((life2 : Int) != (life2 : Int)) = false := by simp
              refine wpAnyH_take (i := 31) (v := .bool false) rfl (by kernel_rfl) (by kernel_rfl) (by kernel_rfl) (fun _ _ _ h => h) (Or.inl ⟨by rfl, (by intro w hSw; (try dsimp only at hSw); go_simp)⟩) (by assumption) ?_
              try simp only [Act.put, List.getElem_toArray, List.getElem_cons_zero, List.getElem_cons_succ, List.setIfInBounds_toArray, List.set_cons_zero, List.set_cons_succ]
              refine wpAnyH_take (i := 32) (v := .bool false) rfl (by kernel_rfl) (by kernel_rfl) (by kernel_rfl) (fun _ _ _ h => h) (Or.inl ⟨by rfl, (by intro w hSw; (try dsimp only at hSw); go_simp)⟩) (by assumption) ?_
              try simp only [Act.put, List.getElem_toArray, List.getElem_cons_zero, List.getElem_cons_succ, List.setIfInBounds_toArray, List.set_cons_zero, List.set_cons_succ]
              refine wpAnyH_done (by kernel_rfl) ?_ _
              clear hHeld qn ql hs6 hum
              go_wp2
              go_roundg (gk - 1)
              case measure => have := HG.out; omega
              case rel => exact ⟨i + 1, by omega, by have := HG.out; omega, by go_num, Lib.hid ⟨j2, k2, A, L, used, life2, rfl, rfl, H6.out.old (drew_below v6), HF.out⟩⟩
        · have q2' : ¬ (i : Int) < 40 := by omega
          go_wp2
          go_ret
          obtain ⟨j, k, A, L, used, life, rfl, rfl, hD, hF⟩ := HB.out
          exact ⟨rfl, hD.below⟩
      · have q1' : ¬ (i : Int) < (cl : Int) := by omega
        go_wp2
        go_ret
        obtain ⟨j, k, A, L, used, life, rfl, rfl, hD, hF⟩ := HB.out
        exact ⟨rfl, hD.below⟩
end Go.Proofs.Ytfecobkpdmjaeaa
