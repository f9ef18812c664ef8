/-
  Calls of scripts; two acceptors side by side; the walk of GrantPlays.
-/
import Derived.Test.YtalfcaepobbdeaaMj
import Derived.Deep.DeepCutAuto
namespace Go.Proofs.Ytalfcaepobbdeaa
open Go.RowKit Go.Great
set_option linter.unusedVariables false
set_option linter.unusedSimpArgs false
set_option maxRecDepth 20000
/-- A call of a script. -/
structure Cl where
  kind : Int
  slot : Int
  node : Int
  nonce : Int
  ahead : Int
def ccs (c : Cl) : List Value := [.int .i64 c.kind, .int .i64 c.slot, .int .i64 c.node, .int .i64 c.nonce, .int .i64 c.ahead]
def Cin (c : Cl) : Prop := In64 c.kind ∧ In64 c.slot ∧ In64 c.node ∧ In64 c.nonce ∧ In64 c.ahead
def CE : Elem Cl where
  K := 5
  T := 33
  TS := 25
  enc := ccs
  z := ⟨0, 0, 0, 0, 0⟩
  ok := Cin
  bytes := 40
  zero := .agg #[.int .i64 0, .int .i64 0, .int .i64 0, .int .i64 0, .int .i64 0]
  hK := by omega
  len := fun x => rfl
  one := fun x v hv => by simp [ccs] at hv; rcases hv with rfl | rfl | rfl | rfl | rfl <;> rfl
  und := Try.underlying25
  info := by kernel_rfl
  zs := rfl
  hb := by omega
  hKs := by omega
theorem info_cl : (Try.prog.info? 33).map (·.size) = some 5 := by kernel_rfl
def cz : List Value := ccs ⟨0, 0, 0, 0, 0⟩
theorem cz_is : cz.toArray = #[.int .i64 0, .int .i64 0, .int .i64 0, .int .i64 0, .int .i64 0] := rfl
theorem ccs_one (c : Cl) : (ccs c).toArray.all (·.oneCell') = true := by simp [ccs, Value.oneCell']
/-- A store to a block that holds an acceptor leaves all rows of grants. -/
theorem acc_setRow {w : World} {g : Nat} {V0 V' V : Array Value} {a : Gt.A} (hz : Whole w g 30 V0) (hv : ∃ boot ad n c, V0 = acs boot ad n c) (ha : Acc w V a) : Acc (w.setRow g V') V a := by
  obtain ⟨ad, n, c, e, h1, h2, h3⟩ := ha
  refine ⟨ad, n, c, e, ?_, h2, h3⟩
  obtain ⟨q1, q2, q3⟩ := h1
  refine ⟨q1, q2, ?_⟩
  obtain ⟨vb, va, vn, vc, rfl⟩ := hv
  rcases q3 with q | ⟨b, off, rfl, _, hb, hc⟩
  · exact Or.inl q
  · by_cases hne : b = g
    · by_cases h0 : n = 0
      · exact Or.inl (List.eq_nil_of_length_eq_zero (by rw [q1]; exact h0))
      · exfalso
        subst hne
        have e0 : off + 0 * GE.K = off := by omega
        have h4 := hc 0 (by omega) 0 (Value.int .i64 (a.gs.getD 0 Gt.none).node) rfl
        have h6 := hc 0 (by omega) 1 (Value.int .i64 (a.gs.getD 0 Gt.none).nonce) rfl
        rw [e0] at h4 h6
        have h5 := hz.cell (off + 0)
        have h7 := hz.cell (off + 1)
        rw [h4] at h5
        rw [h6] at h7
        match off, h5, h7 with
        | 0, h5, h7 => simp [acs] at h7
        | 1, h5, h7 => simp [acs] at h5
        | k + 2, h5, h7 => simp [acs] at h5
    · refine Or.inr ⟨b, off, rfl, trivial, by simp [World.setRow]; exact hb, fun k hk j v hv => ?_⟩
      exact (World.cell?_of_block (w := w) (setRow_other w g b _ hne)).trans (hc k hk j v hv)
theorem acc_form {w : World} {V : Array Value} {a : Gt.A} (h : Acc w V a) : ∃ boot ad n c, V = acs boot ad n c := by
  obtain ⟨ad, n, c, e, _⟩ := h
  exact ⟨_, _, _, _, e⟩
/-- Two acceptors side by side, in blocks of their own. -/
structure Dd (w1 w : World) (g7 g8 : Nat) (V V' : Array Value) (a b : Gt.A) : Prop where
  one : Ab w g7 V a
  two : Ab w g8 V' b
  below : Below g7 w1 w
  lt : g7 < g8
section
variable {w1 w w' : World} {g7 g8 : Nat} {V V' : Array Value} {a b : Gt.A}
theorem Dd.on (h : Dd w1 w g7 g8 V V' a b) (hb : Below w.heap.size w w') : Dd w1 w' g7 g8 V V' a b := ⟨h.one.on hb, h.two.on hb, h.below.trans (hb.mono (by have := h.one.1.lt; omega)), h.lt⟩
theorem Dd.put7 {W : Array Value} {a' : Gt.A} (h : Dd w1 w g7 g8 V V' a b) (hv : Acc w W a') : Dd w1 (w.setRow g7 W) g7 g8 W V' a' b := by
  have := h.lt
  exact ⟨⟨h.one.1.row W, acc_setRow h.one.1 (acc_form h.one.2) hv⟩, ⟨h.two.1.rowFar (by omega) W, acc_setRow h.one.1 (acc_form h.one.2) h.two.2⟩, below_row h.below (Nat.le_refl _) _, h.lt⟩
theorem Dd.put8 {W : Array Value} {b' : Gt.A} (h : Dd w1 w g7 g8 V V' a b) (hv : Acc w W b') : Dd w1 (w.setRow g8 W) g7 g8 V W a b' := by
  have := h.lt
  exact ⟨⟨h.one.1.rowFar (by omega) W, acc_setRow h.two.1 (acc_form h.two.2) h.one.2⟩, ⟨h.two.1.row W, acc_setRow h.two.1 (acc_form h.two.2) hv⟩, below_row h.below (by omega) _, h.lt⟩
theorem Dd.acc8 {W : Array Value} {a' : Gt.A} (h : Dd w1 w g7 g8 V V' a b) (hv : Acc w W a') (X : Array Value) : Acc (w.setRow g7 X) W a' := acc_setRow h.one.1 (acc_form h.one.2) hv
end
set_option maxHeartbeats 8000000 in
theorem plays_walk (hg : Grn) (hw : Awake) {w : World} {S S' : Nat → Prop} {C : Array Value} {p : Dr.P} (h : Cc w S C p) {sa : Option Addr} {n c : Nat} {l : List Cl} (hs : CE.Row w S' sa n l) :
    Calls Try.prog 3 #[.agg C, .slice sa n c] w fun e w' => e = .returned (.bool true) ∧ Below w.heap.size w w' := by
  have h11 := h.size
  have HG := Lib.hid hg
  have HA := Lib.hid hw
  have HK : Hid (Pl (w.alloc (.cells C 24)) w.heap.size C p ∧ CE.Row (w.alloc (.cells C 24)) Any sa n l ∧ Below w.heap.size w (w.alloc (.cells C 24))) := Lib.hid ⟨Pl.new h, hs.any.on (below_alloc w _), below_alloc w _⟩
  clear hg hw h hs
  go_enter Try.func3, Try.ntmps3
  go_upto_region 1 with fail
  generalize w.alloc (.cells C 24) = w1 at *
  go_wp2_with fail
  refine (HA.out w1).mono ?_
  rintro e w2 ⟨rfl, hb⟩
  have HK := Lib.hid (And.intro (HK.out.1.on hb) (And.intro (HK.out.2.1.on hb) (HK.out.2.2.trans (hb.mono HK.out.2.2.size))))
  clear hb
  go_wp2_with (first | ((with_reducible show wpList _ _ _ ((⟨some 21, Op.load 24 (.tmp 2), _, _, _, _⟩ : Oper) :: _) _ _); refine wpList_load_rowG (by rfl) _ (.tmp 2) rfl w.heap.size rfl 24 C (0, 0) _ HK.out.1.1 Try.underlying24 rfl (by rw [h11]; exact info11) ?_) | fail)
  refine (few_any HK.out.1.2).mono ?_
  rintro e w3 ⟨rfl, hb⟩
  have HK := Lib.hid (And.intro (HK.out.1.on hb) (And.intro (HK.out.2.1.on hb) (HK.out.2.2.trans (hb.mono HK.out.2.2.size))))
  clear hb
  obtain ⟨fw, hfw⟩ : ∃ b, few p = b := ⟨_, rfl⟩
  rw [hfw]
  clear hfw
  cases fw
  case false =>
    go_wp2
    go_ret
    exact ⟨rfl, HK.out.2.2⟩
  go_wp2_with (first | ((with_reducible show wpList _ _ _ ((⟨some 24, Op.load 24 (.tmp 2), _, _, _, _⟩ : Oper) :: _) _ _); refine wpList_load_rowG (by rfl) _ (.tmp 2) rfl w.heap.size rfl 24 C (0, 0) _ HK.out.1.1 Try.underlying24 rfl (by rw [h11]; exact info11) ?_) | fail)
  refine (HG.out.new HK.out.1.2 0 (in_lit (by omega))).mono ?_
  rintro e w4 ⟨V4, rfl, ha, hb⟩
  have HK := Lib.hid (And.intro (HK.out.1.on hb) (And.intro (HK.out.2.1.on hb) (HK.out.2.2.trans (hb.mono HK.out.2.2.size))))
  clear hb
  have h6 := ha.size
  have h6o := ha.one
  have HA4 := Lib.hid ha
  clear ha
  go_upto_region 8 with (first | ((with_reducible show wpList _ _ _ ((⟨_, Op.store 30 (.tmp 7) _, _, _, _, _⟩ : Oper) :: _) _ _); refine wpList_store_row rfl 30 (.tmp 7) (.tmp 26) rfl w4.heap.size V4 rfl rfl 30 az (Whole.new w4 30 az) (by rw [h6]; exact info_acc) (by rw [h6]; rfl) h6o ?_) | fail)
  rw [← az_is]
  have H5 : Hid (Ab ((w4.alloc (.cells az 30)).setRow w4.heap.size V4) w4.heap.size V4 (Gt.new p 0) ∧ Below w4.heap.size w4 ((w4.alloc (.cells az 30)).setRow w4.heap.size V4)) := Lib.hid (by
    have hb : Below w4.heap.size w4 ((w4.alloc (.cells az 30)).setRow w4.heap.size V4) := below_row (below_alloc w4 _) (Nat.le_refl _) _
    exact ⟨⟨(Whole.new w4 _ _).row V4, HA4.out.on hb⟩, hb⟩)
  clear HA4 h6 h6o
  generalize (w4.alloc (.cells az 30)).setRow w4.heap.size V4 = w5 at *
  have hp5 := HK.out.1.on H5.out.2
  go_wp2_with (first | ((with_reducible show wpList _ _ _ ((⟨some 27, Op.load 24 (.tmp 2), _, _, _, _⟩ : Oper) :: _) _ _); refine wpList_load_rowG (by rfl) _ (.tmp 2) rfl w.heap.size rfl 24 C (0, 0) _ hp5.1 Try.underlying24 rfl (by rw [h11]; exact info11) ?_) | fail)
  refine (rnew_any hp5.2 0 (in_lit (by omega))).mono ?_
  clear hp5
  rintro e w6 ⟨V6, rfl, ha, hb⟩
  have h6 := ha.size
  have h6o := ha.one
  have hl5 := H5.out.1.1.lt
  have H6 := Lib.hid (And.intro (H5.out.1.on hb) (And.intro (H5.out.2.trans (hb.mono H5.out.2.size)) (And.intro ha (Nat.lt_of_lt_of_le hl5 hb.size))))
  clear ha hb hl5 H5
  go_upto_region 9 with (first | ((with_reducible show wpList _ _ _ ((⟨_, Op.store 30 (.tmp 8) _, _, _, _, _⟩ : Oper) :: _) _ _); refine wpList_store_row rfl 30 (.tmp 8) (.tmp 29) rfl w6.heap.size V6 rfl rfl 30 az (Whole.new w6 30 az) (by rw [h6]; exact info_acc) (by rw [h6]; rfl) h6o ?_) | fail)
  rw [← az_is]
  have H7 : Hid (Dd w4 ((w6.alloc (.cells az 30)).setRow w6.heap.size V6) w4.heap.size w6.heap.size V4 V6 (Gt.new p 0) (Gt.new p 0)) := Lib.hid (by
    have hb : Below w6.heap.size w6 ((w6.alloc (.cells az 30)).setRow w6.heap.size V6) := below_row (below_alloc w6 _) (Nat.le_refl _) _
    exact ⟨H6.out.1.on hb, ⟨(Whole.new w6 _ _).row V6, H6.out.2.2.1.on hb⟩, H6.out.2.1.trans (hb.mono (Nat.le_of_lt H6.out.2.2.2)), H6.out.2.2.2⟩)
  clear H6 h6 h6o
  generalize (w6.alloc (.cells az 30)).setRow w6.heap.size V6 = w7 at *
  obtain ⟨g8, hg8⟩ : ∃ g, w6.heap.size = g := ⟨_, rfl⟩
  rw [hg8] at H7 ⊢
  clear hg8
  have H0 : Hid (∃ V V' a, Dd w4 w7 w4.heap.size g8 V V' a a) := Lib.hid ⟨V4, V6, _, H7.out⟩
  clear H7
  go_wp2
  go_loopw [6, 9] (fun vn vi wr => ∃ (i : Nat) (now : Int), i ≤ 60 ∧ vi = .int .i64 (i : Int) ∧ vn = .int .i64 now ∧ 0 ≤ now ∧ now ≤ (i : Int) * 1099511627776 ∧ Hid (∃ V V' a, Dd w4 wr w4.heap.size g8 V V' a a)) (fun _ vi _ => 60 - (intOf vi).toNat)
  case atStart => exact ⟨0, 0, by omega, rfl, rfl, by omega, by omega, H0⟩
  case round =>
    clear H0
    obtain ⟨i, now, hi, rfl, rfl, hn0, hn1, HD⟩ := hrel
    obtain ⟨V, V', a, hD⟩ := HD.out
    have hrow := HK.out.2.1.old.below hD.below (fun _ _ h => h)
    have HD := Lib.hid hD
    clear hD
    by_cases hin : (i : Int) < (n : Int)
    case neg =>
      go_wp2
      go_ret
      exact ⟨rfl, HK.out.2.2.trans (HD.out.below.mono HK.out.2.2.size)⟩
    by_cases hi60 : (i : Int) < 60
    case neg =>
      go_wp2
      go_ret
      exact ⟨rfl, HK.out.2.2.trans (HD.out.below.mono HK.out.2.2.size)⟩
    obtain ⟨b, off, rfl, _, _, hrg⟩ := hrow.at_ (k := i) (by omega)
    have hok := hrow.in_ (k := i) (by omega)
    obtain ⟨x, hx⟩ : ∃ x, l.getD i CE.z = x := ⟨_, rfl⟩
    have e5 : CE.K = 5 := rfl
    rw [hx, e5] at hrg
    rw [hx] at hok
    obtain ⟨kd, sl, nd, nc, ah⟩ := x
    have HI : Hid (In64 kd ∧ In64 sl ∧ In64 nd ∧ In64 nc ∧ In64 ah) := Lib.hid hok
    have d0 : wr.cell? ⟨b, off + i * 5, none⟩ = some (.int .i64 kd) := hrg 0 _ rfl
    have d1 : wr.cell? ⟨b, off + i * 5 + 1, none⟩ = some (.int .i64 sl) := hrg 1 _ rfl
    have d2 : wr.cell? ⟨b, off + i * 5 + 2, none⟩ = some (.int .i64 nd) := hrg 2 _ rfl
    have d3 : wr.cell? ⟨b, off + i * 5 + 3, none⟩ = some (.int .i64 nc) := hrg 3 _ rfl
    have d4 : wr.cell? ⟨b, off + i * 5 + 4, none⟩ = some (.int .i64 ah) := hrg 4 _ rfl
    clear hrow hrg hok hx e5
    go_upto_region 13 with (first | ((with_reducible show wpList _ _ _ ((⟨_, Op.store 33 (.tmp 10) _, _, _, _, _⟩ : Oper) :: _) _ _); refine wpList_store_row rfl 33 (.tmp 10) (.tmp 43) rfl wr.heap.size (ccs ⟨kd, sl, nd, nc, ah⟩).toArray rfl rfl 33 cz.toArray (Whole.new wr 33 cz.toArray) info_cl rfl (ccs_one _) ?_) | fail)
    rw [← cz_is]
    obtain ⟨wk, hwk⟩ : ∃ wk, (wr.alloc (.cells cz.toArray 33)).setRow wr.heap.size (ccs ⟨kd, sl, nd, nc, ah⟩).toArray = wk := ⟨_, rfl⟩
    have hWk : Whole wk wr.heap.size 33 (ccs ⟨kd, sl, nd, nc, ah⟩).toArray := by rw [← hwk]; exact (Whole.new wr _ _).row _
    have hbk : Below wr.heap.size wr wk := by rw [← hwk]; exact below_row (below_alloc wr _) (Nat.le_refl _) _
    rw [hwk]
    obtain ⟨gk, hgk⟩ : ∃ gk, wr.heap.size = gk := ⟨_, rfl⟩
    have hgl : g8 < gk := by rw [← hgk]; exact HD.out.two.1.lt
    have HD := Lib.hid (HD.out.on hbk)
    rw [hgk] at hWk ⊢
    have HW := Lib.hid hWk
    have HGL := Lib.hid hgl
    have k4 : wk.cell? ⟨gk, 4, none⟩ = some (.int .i64 ah) := hWk.cell 4
    clear hwk hWk hbk hgk hgl d0 d1 d2 d3 d4
    obtain ⟨now2, hnow2⟩ : ∃ now2, (if 0 < ah ∧ ah < 1099511627776 then now + ah else now) = now2 := ⟨_, rfl⟩
    have hn2 : 0 ≤ now2 ∧ now2 ≤ ((i + 1 : Nat) : Int) * 1099511627776 := by rw [← hnow2]; split <;> constructor <;> omega
    have hi60' : i ≤ 59 := by omega
    try simp only [Act.put, List.getElem_toArray, List.getElem_cons_zero, List.getElem_cons_succ, List.setIfInBounds_toArray, List.set_cons_zero, List.set_cons_succ]
    obtain ⟨bb, hbb⟩ : ∃ bb, decide (0 < ah ∧ ah < 1099511627776) = bb := ⟨_, rfl⟩
    go_cut [51] (fun v wx => v = .bool bb ∧ wx = wk)
    case first => as_aux_lemma =>
      by_cases y1 : ah > 0
      · by_cases y2 : ah < 1099511627776
        · have eb : bb = true := by rw [← hbb]; exact decide_eq_true ⟨y1, y2⟩
          clear hbb
          subst eb
          go_wp2
          go_meet
          case rel => exact ⟨rfl, rfl⟩
        · have y2' : decide (ah < 1099511627776) = false := decide_eq_false y2
          have eb : bb = false := by rw [← hbb]; exact decide_eq_false fun h => y2 h.2
          clear hbb
          subst eb
          go_wp2
          go_meet
          case rel => exact ⟨rfl, rfl⟩
      · have y1' : decide (0 < ah) = false := decide_eq_false y1
        have eb : bb = false := by rw [← hbb]; exact decide_eq_false fun h => y1 h.1
        clear hbb
        subst eb
        go_wp2
        go_meet
        case rel => exact ⟨rfl, rfl⟩
    case rest =>
    obtain ⟨rfl, rfl⟩ := hcut
    go_upto_if 51 with fail
    go_cut [6] (fun v wx => v = .int .i64 now2 ∧ wx = wc)
    case first => as_aux_lemma =>
      cases bb with
      | true =>
        have hc := of_decide_eq_true hbb
        have ew : IntKind.i64.wrap (now + ah) = now2 := by rw [← hnow2, if_pos hc, IntKind.wrap_i64]; omega
        clear hnow2 hbb hc
        go_wp2
        go_meet
        case rel => exact ⟨rfl, rfl⟩
      | false =>
        have hc := of_decide_eq_false hbb
        have en : now = now2 := by rw [← hnow2, if_neg hc]
        clear hnow2 hbb hc
        subst en
        go_wp2
        go_meet
        case rel => exact ⟨rfl, rfl⟩
    case rest =>
    obtain ⟨rfl, rfl⟩ := hcut
    clear hbb hnow2 hn0 hn1 k4
    have HN : Hid (In64 now2) := Lib.hid ⟨by omega, by omega⟩
    by_cases y1 : kd = 1
    · as_aux_lemma =>
        subst y1
        have k0 : wc.cell? ⟨gk, 0, none⟩ = some (.int .i64 1) := HW.out.cell 0
        have k1 : wc.cell? ⟨gk, 1, none⟩ = some (.int .i64 sl) := HW.out.cell 1
        have k2 : wc.cell? ⟨gk, 2, none⟩ = some (.int .i64 nd) := HW.out.cell 2
        have k3 : wc.cell? ⟨gk, 3, none⟩ = some (.int .i64 nc) := HW.out.cell 3
        have hp := HK.out.1.on HD.out.below
        have z1 := HD.out.one.2.size
        go_wp2_with (first | ((with_reducible show wpList _ _ _ ((⟨some 61, Op.load 24 (.tmp 2), _, _, _, _⟩ : Oper) :: _) _ _); refine wpList_load_rowG (by rfl) _ (.tmp 2) rfl w.heap.size rfl 24 C (0, 0) _ hp.1 Try.underlying24 rfl (by rw [h11]; exact info11) ?_) | ((with_reducible show wpList _ _ _ ((⟨some 62, Op.load 30 (.tmp 7), _, _, _, _⟩ : Oper) :: _) _ _); refine wpList_load_rowG (by rfl) _ (.tmp 7) rfl w4.heap.size rfl 30 V (0, 0) _ HD.out.one.1 Try.underlying30 rfl (by rw [z1]; exact info_acc) ?_) | fail)
        refine (HG.out.ask hp.2 HD.out.one.2 sl nd nc now2 HI.out.2.1 HI.out.2.2.1 HI.out.2.2.2.1 HN.out).mono ?_
        rintro e wA ⟨Va, rfl, ha, hb⟩
        obtain ⟨r, hr⟩ : ∃ r, Gt.ask p a sl nd nc now2 = r := ⟨_, rfl⟩
        rw [hr] at ha ⊢
        have HR := Lib.hid hr
        have h6 := ha.size
        have h6o := ha.one
        have HA1 := Lib.hid (And.intro ha (And.intro (HD.out.on hb) (HW.out.below hb HW.out.lt)))
        clear ha hb hr hp z1 k0 k1 k2 k3
        go_upto_region 20 with (first | ((with_reducible show wpList _ _ _ ((⟨_, Op.store 30 (.tmp 13) _, _, _, _, _⟩ : Oper) :: _) _ _); refine wpList_store_row rfl 30 (.tmp 13) (.tmp 71) rfl wA.heap.size Va rfl rfl 30 az (Whole.new wA 30 az) (by rw [h6]; exact info_acc) (by rw [h6]; rfl) h6o ?_) | fail)
        rw [← az_is]
        have HA2 : Hid (Whole ((wA.alloc (.cells az 30)).setRow wA.heap.size Va) wA.heap.size 30 Va ∧ Acc ((wA.alloc (.cells az 30)).setRow wA.heap.size Va) Va r.1 ∧ Dd w4 ((wA.alloc (.cells az 30)).setRow wA.heap.size Va) w4.heap.size g8 V V' a a ∧ Whole ((wA.alloc (.cells az 30)).setRow wA.heap.size Va) gk 33 (ccs ⟨1, sl, nd, nc, ah⟩).toArray ∧ g8 < wA.heap.size) := Lib.hid (by
          have hb : Below wA.heap.size wA ((wA.alloc (.cells az 30)).setRow wA.heap.size Va) := below_row (below_alloc wA _) (Nat.le_refl _) _
          exact ⟨(Whole.new wA _ _).row Va, HA1.out.1.on hb, HA1.out.2.1.on hb, HA1.out.2.2.below hb HA1.out.2.2.lt, HA1.out.2.1.two.1.lt⟩)
        clear HA1 h6 h6o
        generalize (wA.alloc (.cells az 30)).setRow wA.heap.size Va = wB at *
        have m1 : wB.cell? ⟨gk, 1, none⟩ = some (.int .i64 sl) := HA2.out.2.2.2.1.cell 1
        have m2 : wB.cell? ⟨gk, 2, none⟩ = some (.int .i64 nd) := HA2.out.2.2.2.1.cell 2
        have m3 : wB.cell? ⟨gk, 3, none⟩ = some (.int .i64 nc) := HA2.out.2.2.2.1.cell 3
        have hp := HK.out.1.on HA2.out.2.2.1.below
        have z1 := HA2.out.2.2.1.two.2.size
        go_wp2_with (first | ((with_reducible show wpList _ _ _ ((⟨some 74, Op.load 24 (.tmp 2), _, _, _, _⟩ : Oper) :: _) _ _); refine wpList_load_rowG (by rfl) _ (.tmp 2) rfl w.heap.size rfl 24 C (0, 0) _ hp.1 Try.underlying24 rfl (by rw [h11]; exact info11) ?_) | ((with_reducible show wpList _ _ _ ((⟨some 75, Op.load 30 (.tmp 8), _, _, _, _⟩ : Oper) :: _) _ _); refine wpList_load_rowG (by rfl) _ (.tmp 8) rfl g8 rfl 30 V' (0, 0) _ HA2.out.2.2.1.two.1 Try.underlying30 rfl (by rw [z1]; exact info_acc) ?_) | fail)
        refine (rgask_any hp.2 HA2.out.2.2.1.two.2 sl nd nc now2 HI.out.2.1 HI.out.2.2.1 HI.out.2.2.2.1 HN.out).mono ?_
        rintro e wC ⟨Vc, rfl, hc, hb⟩
        rw [HR.out] at hc ⊢
        have h6 := hc.size
        have h6o := hc.one
        have HA3 := Lib.hid (And.intro hc (And.intro (HA2.out.1.below hb HA2.out.1.lt) (And.intro (HA2.out.2.1.on hb) (HA2.out.2.2.1.on hb))))
        have HLT := Lib.hid (And.intro HA2.out.2.2.2.2 (Nat.lt_of_lt_of_le HA2.out.1.lt hb.size))
        clear hc hb hp z1 m1 m2 m3 HA2
        go_upto_region 21 with (first | ((with_reducible show wpList _ _ _ ((⟨_, Op.store 30 (.tmp 15) _, _, _, _, _⟩ : Oper) :: _) _ _); refine wpList_store_row rfl 30 (.tmp 15) (.tmp 84) rfl wC.heap.size Vc rfl rfl 30 az (Whole.new wC 30 az) (by rw [h6]; exact info_acc) (by rw [h6]; rfl) h6o ?_) | fail)
        rw [← az_is]
        have HA4 : Hid (Whole ((wC.alloc (.cells az 30)).setRow wC.heap.size Vc) wC.heap.size 30 Vc ∧ Acc ((wC.alloc (.cells az 30)).setRow wC.heap.size Vc) Vc r.1 ∧ Whole ((wC.alloc (.cells az 30)).setRow wC.heap.size Vc) wA.heap.size 30 Va ∧ Acc ((wC.alloc (.cells az 30)).setRow wC.heap.size Vc) Va r.1 ∧ Dd w4 ((wC.alloc (.cells az 30)).setRow wC.heap.size Vc) w4.heap.size g8 V V' a a) := Lib.hid (by
          have hb : Below wC.heap.size wC ((wC.alloc (.cells az 30)).setRow wC.heap.size Vc) := below_row (below_alloc wC _) (Nat.le_refl _) _
          exact ⟨(Whole.new wC _ _).row Vc, HA3.out.1.on hb, HA3.out.2.1.below hb HA3.out.2.1.lt, HA3.out.2.2.1.on hb, HA3.out.2.2.2.on hb⟩)
        clear HA3 h6 h6o
        generalize (wC.alloc (.cells az 30)).setRow wC.heap.size Vc = wD at *
        have za := HA4.out.2.2.2.1.size
        have zc := HA4.out.2.1.size
        have oa := HA4.out.2.2.2.1.one
        have oc := HA4.out.2.1.one
        have z7 := HA4.out.2.2.2.2.one.2.size
        have z8 := HA4.out.2.2.2.2.two.2.size
        go_upto_region 22 with (first | ((with_reducible show wpList _ _ _ ((⟨some 86, Op.load 30 (.tmp 13), _, _, _, _⟩ : Oper) :: _) _ _); refine wpList_load_rowG (by rfl) _ (.tmp 13) rfl wA.heap.size rfl 30 Va (0, 0) _ HA4.out.2.2.1 Try.underlying30 rfl (by rw [za]; exact info_acc) ?_) | ((with_reducible show wpList _ _ _ ((⟨_, Op.store 30 (.tmp 7) _, _, _, _, _⟩ : Oper) :: _) _ _); refine wpList_store_row rfl 30 (.tmp 7) (.tmp 86) rfl w4.heap.size Va rfl rfl 30 V HA4.out.2.2.2.2.one.1 (by rw [za]; exact info_acc) (by rw [za]; exact z7) oa ?_) | fail)
        have HA5 : Hid (Whole (wD.setRow w4.heap.size Va) wC.heap.size 30 Vc ∧ Acc (wD.setRow w4.heap.size Va) Vc r.1 ∧ Dd w4 (wD.setRow w4.heap.size Va) w4.heap.size g8 Va V' r.1 a) := Lib.hid ⟨HA4.out.1.rowFar (by have := HLT.out; have := HA4.out.2.2.2.2.lt; omega) Va, HA4.out.2.2.2.2.acc8 HA4.out.2.1 Va, HA4.out.2.2.2.2.put7 HA4.out.2.2.2.1⟩
        clear HA4 z7
        generalize wD.setRow w4.heap.size Va = wE at *
        go_upto_region 23 with (first | ((with_reducible show wpList _ _ _ ((⟨some 87, Op.load 30 (.tmp 15), _, _, _, _⟩ : Oper) :: _) _ _); refine wpList_load_rowG (by rfl) _ (.tmp 15) rfl wC.heap.size rfl 30 Vc (0, 0) _ HA5.out.1 Try.underlying30 rfl (by rw [zc]; exact info_acc) ?_) | ((with_reducible show wpList _ _ _ ((⟨_, Op.store 30 (.tmp 8) _, _, _, _, _⟩ : Oper) :: _) _ _); refine wpList_store_row rfl 30 (.tmp 8) (.tmp 87) rfl g8 Vc rfl rfl 30 V' HA5.out.2.2.two.1 (by rw [zc]; exact info_acc) (by rw [zc]; exact z8) oc ?_) | fail)
        have HE := Lib.hid (HA5.out.2.2.put8 HA5.out.2.1)
        clear HA5 za zc oa oc z8
        generalize wE.setRow g8 Vc = wF at *
        obtain ⟨bo, hbo⟩ : ∃ b, r.2 = b := ⟨_, rfl⟩
        rw [hbo]
        have qb : (bo != bo) = false := by simp
        clear hbo
        have z1 := HE.out.one.2.size
        have z2 := HE.out.two.2.size
        go_wp2_with (first | ((with_reducible show wpList _ _ _ ((⟨some 118, Op.load 30 (.tmp 7), _, _, _, _⟩ : Oper) :: _) _ _); refine wpList_load_rowG (by rfl) _ (.tmp 7) rfl w4.heap.size rfl 30 Va (0, 0) _ HE.out.one.1 Try.underlying30 rfl (by rw [z1]; exact info_acc) ?_) | ((with_reducible show wpList _ _ _ ((⟨some 119, Op.load 30 (.tmp 8), _, _, _, _⟩ : Oper) :: _) _ _); refine wpList_load_rowG (by rfl) _ (.tmp 8) rfl g8 rfl 30 Vc (0, 0) _ HE.out.two.1 Try.underlying30 rfl (by rw [z2]; exact info_acc) ?_) | fail)
        refine (rasame_any HE.out.one.2 HE.out.two.2).mono ?_
        rintro e wz ⟨rfl, hbz⟩
        have HZ : Hid (∃ V V' a, Dd w4 wz w4.heap.size g8 V V' a a) := Lib.hid ⟨_, _, _, HE.out.on hbz⟩
        clear hbz z1 z2
        go_wp2
        exact ⟨⟨i + 1, now2, by omega, by go_num, rfl, hn2.1, hn2.2, HZ⟩, by simp [intOf] <;> omega⟩
    have q1 : (kd == 1) = false := by simp [y1]
    clear y1
    by_cases y2 : kd = 2
    · as_aux_lemma =>
        subst y2
        have k0 : wc.cell? ⟨gk, 0, none⟩ = some (.int .i64 2) := HW.out.cell 0
        have k1 : wc.cell? ⟨gk, 1, none⟩ = some (.int .i64 sl) := HW.out.cell 1
        have k2 : wc.cell? ⟨gk, 2, none⟩ = some (.int .i64 nd) := HW.out.cell 2
        have k3 : wc.cell? ⟨gk, 3, none⟩ = some (.int .i64 nc) := HW.out.cell 3
        have hp := HK.out.1.on HD.out.below
        have z1 := HD.out.one.2.size
        have z7 := z1
        go_wp2_with (first | ((with_reducible show wpList _ _ _ ((⟨some 92, Op.load 24 (.tmp 2), _, _, _, _⟩ : Oper) :: _) _ _); refine wpList_load_rowG (by rfl) _ (.tmp 2) rfl w.heap.size rfl 24 C (0, 0) _ hp.1 Try.underlying24 rfl (by rw [h11]; exact info11) ?_) | ((with_reducible show wpList _ _ _ ((⟨some 93, Op.load 30 (.tmp 7), _, _, _, _⟩ : Oper) :: _) _ _); refine wpList_load_rowG (by rfl) _ (.tmp 7) rfl w4.heap.size rfl 30 V (0, 0) _ HD.out.one.1 Try.underlying30 rfl (by rw [z1]; exact info_acc) ?_) | fail)
        refine (HG.out.free hp.2 HD.out.one.2 sl nd nc HI.out.2.1 HI.out.2.2.1 HI.out.2.2.2.1).mono ?_
        rintro e wA ⟨Va, rfl, ha, hb⟩
        have za := ha.size
        have oa := ha.one
        have HA1 := Lib.hid (And.intro ha (And.intro (HD.out.on hb) (HW.out.below hb HW.out.lt)))
        clear ha hb hp z1 k0 k1 k2 k3
        go_upto_region 27 with (first | ((with_reducible show wpList _ _ _ ((⟨_, Op.store 30 (.tmp 7) _, _, _, _, _⟩ : Oper) :: _) _ _); refine wpList_store_row rfl 30 (.tmp 7) (.tmp 100) rfl w4.heap.size Va rfl rfl 30 V HA1.out.2.1.one.1 (by rw [za]; exact info_acc) (by rw [za]; exact z7) oa ?_) | fail)
        have hgk : gk ≠ w4.heap.size := by have := HGL.out; have := HD.out.lt; omega
        have HA2 : Hid (Dd w4 (wA.setRow w4.heap.size Va) w4.heap.size g8 Va V' (Gt.free p a sl nd nc) a ∧ Whole (wA.setRow w4.heap.size Va) gk 33 (ccs ⟨2, sl, nd, nc, ah⟩).toArray) := Lib.hid ⟨HA1.out.2.1.put7 HA1.out.1, HA1.out.2.2.rowFar hgk Va⟩
        clear HA1 z7 hgk
        generalize wA.setRow w4.heap.size Va = wB at *
        have m1 : wB.cell? ⟨gk, 1, none⟩ = some (.int .i64 sl) := HA2.out.2.cell 1
        have m2 : wB.cell? ⟨gk, 2, none⟩ = some (.int .i64 nd) := HA2.out.2.cell 2
        have m3 : wB.cell? ⟨gk, 3, none⟩ = some (.int .i64 nc) := HA2.out.2.cell 3
        have hp := HK.out.1.on HA2.out.1.below
        have z8 := HA2.out.1.two.2.size
        go_wp2_with (first | ((with_reducible show wpList _ _ _ ((⟨some 101, Op.load 24 (.tmp 2), _, _, _, _⟩ : Oper) :: _) _ _); refine wpList_load_rowG (by rfl) _ (.tmp 2) rfl w.heap.size rfl 24 C (0, 0) _ hp.1 Try.underlying24 rfl (by rw [h11]; exact info11) ?_) | ((with_reducible show wpList _ _ _ ((⟨some 102, Op.load 30 (.tmp 8), _, _, _, _⟩ : Oper) :: _) _ _); refine wpList_load_rowG (by rfl) _ (.tmp 8) rfl g8 rfl 30 V' (0, 0) _ HA2.out.1.two.1 Try.underlying30 rfl (by rw [z8]; exact info_acc) ?_) | fail)
        refine (rgfree_any hp.2 HA2.out.1.two.2 sl nd nc).mono ?_
        rintro e wC ⟨Vc, rfl, hc, hb⟩
        have zc := hc.size
        have oc := hc.one
        have HA3 := Lib.hid (And.intro hc (HA2.out.1.on hb))
        clear hc hb hp m1 m2 m3 HA2
        go_upto_region 31 with (first | ((with_reducible show wpList _ _ _ ((⟨_, Op.store 30 (.tmp 8) _, _, _, _, _⟩ : Oper) :: _) _ _); refine wpList_store_row rfl 30 (.tmp 8) (.tmp 109) rfl g8 Vc rfl rfl 30 V' HA3.out.2.two.1 (by rw [zc]; exact info_acc) (by rw [zc]; exact z8) oc ?_) | fail)
        have HE := Lib.hid (HA3.out.2.put8 HA3.out.1)
        clear HA3 za zc oa oc z8
        generalize wC.setRow g8 Vc = wF at *
        have qb : (false != false) = false := rfl
        have z1 := HE.out.one.2.size
        have z2 := HE.out.two.2.size
        go_wp2_with (first | ((with_reducible show wpList _ _ _ ((⟨some 118, Op.load 30 (.tmp 7), _, _, _, _⟩ : Oper) :: _) _ _); refine wpList_load_rowG (by rfl) _ (.tmp 7) rfl w4.heap.size rfl 30 Va (0, 0) _ HE.out.one.1 Try.underlying30 rfl (by rw [z1]; exact info_acc) ?_) | ((with_reducible show wpList _ _ _ ((⟨some 119, Op.load 30 (.tmp 8), _, _, _, _⟩ : Oper) :: _) _ _); refine wpList_load_rowG (by rfl) _ (.tmp 8) rfl g8 rfl 30 Vc (0, 0) _ HE.out.two.1 Try.underlying30 rfl (by rw [z2]; exact info_acc) ?_) | fail)
        refine (rasame_any HE.out.one.2 HE.out.two.2).mono ?_
        rintro e wz ⟨rfl, hbz⟩
        have HZ : Hid (∃ V V' a, Dd w4 wz w4.heap.size g8 V V' a a) := Lib.hid ⟨_, _, _, HE.out.on hbz⟩
        clear hbz z1 z2
        go_wp2
        exact ⟨⟨i + 1, now2, by omega, by go_num, rfl, hn2.1, hn2.2, HZ⟩, by simp [intOf] <;> omega⟩
    have q2 : (kd == 2) = false := by simp [y2]
    clear y2
    by_cases y3 : kd = 3
    · as_aux_lemma =>
        subst y3
        have k0 : wc.cell? ⟨gk, 0, none⟩ = some (.int .i64 3) := HW.out.cell 0
        have k1 : wc.cell? ⟨gk, 1, none⟩ = some (.int .i64 sl) := HW.out.cell 1
        have k2 : wc.cell? ⟨gk, 2, none⟩ = some (.int .i64 nd) := HW.out.cell 2
        have k3 : wc.cell? ⟨gk, 3, none⟩ = some (.int .i64 nc) := HW.out.cell 3
        have hp := HK.out.1.on HD.out.below
        have z1 := HD.out.one.2.size
        have z7 := z1
        go_wp2_with (first | ((with_reducible show wpList _ _ _ ((⟨some 112, Op.load 24 (.tmp 2), _, _, _, _⟩ : Oper) :: _) _ _); refine wpList_load_rowG (by rfl) _ (.tmp 2) rfl w.heap.size rfl 24 C (0, 0) _ hp.1 Try.underlying24 rfl (by rw [h11]; exact info11) ?_) | fail)
        refine (HG.out.new hp.2 now2 HN.out).mono ?_
        rintro e wA ⟨Va, rfl, ha, hb⟩
        have za := ha.size
        have oa := ha.one
        have HA1 := Lib.hid (And.intro ha (And.intro (HD.out.on hb) (HW.out.below hb HW.out.lt)))
        clear ha hb hp z1 k0 k1 k2 k3
        go_upto_region 30 with (first | ((with_reducible show wpList _ _ _ ((⟨_, Op.store 30 (.tmp 7) _, _, _, _, _⟩ : Oper) :: _) _ _); refine wpList_store_row rfl 30 (.tmp 7) (.tmp 114) rfl w4.heap.size Va rfl rfl 30 V HA1.out.2.1.one.1 (by rw [za]; exact info_acc) (by rw [za]; exact z7) oa ?_) | fail)
        have hgk : gk ≠ w4.heap.size := by have := HGL.out; have := HD.out.lt; omega
        have HA2 : Hid (Dd w4 (wA.setRow w4.heap.size Va) w4.heap.size g8 Va V' (Gt.new p now2) a ∧ Whole (wA.setRow w4.heap.size Va) gk 33 (ccs ⟨3, sl, nd, nc, ah⟩).toArray) := Lib.hid ⟨HA1.out.2.1.put7 HA1.out.1, HA1.out.2.2.rowFar hgk Va⟩
        clear HA1 z7 hgk
        generalize wA.setRow w4.heap.size Va = wB at *
        have m1 : wB.cell? ⟨gk, 1, none⟩ = some (.int .i64 sl) := HA2.out.2.cell 1
        have m2 : wB.cell? ⟨gk, 2, none⟩ = some (.int .i64 nd) := HA2.out.2.cell 2
        have m3 : wB.cell? ⟨gk, 3, none⟩ = some (.int .i64 nc) := HA2.out.2.cell 3
        have hp := HK.out.1.on HA2.out.1.below
        have z8 := HA2.out.1.two.2.size
        go_wp2_with (first | ((with_reducible show wpList _ _ _ ((⟨some 115, Op.load 24 (.tmp 2), _, _, _, _⟩ : Oper) :: _) _ _); refine wpList_load_rowG (by rfl) _ (.tmp 2) rfl w.heap.size rfl 24 C (0, 0) _ hp.1 Try.underlying24 rfl (by rw [h11]; exact info11) ?_) | fail)
        refine (rnew_any hp.2 now2 HN.out).mono ?_
        rintro e wC ⟨Vc, rfl, hc, hb⟩
        have zc := hc.size
        have oc := hc.one
        have HA3 := Lib.hid (And.intro hc (HA2.out.1.on hb))
        clear hc hb hp m1 m2 m3 HA2
        go_upto_region 31 with (first | ((with_reducible show wpList _ _ _ ((⟨_, Op.store 30 (.tmp 8) _, _, _, _, _⟩ : Oper) :: _) _ _); refine wpList_store_row rfl 30 (.tmp 8) (.tmp 117) rfl g8 Vc rfl rfl 30 V' HA3.out.2.two.1 (by rw [zc]; exact info_acc) (by rw [zc]; exact z8) oc ?_) | fail)
        have HE := Lib.hid (HA3.out.2.put8 HA3.out.1)
        clear HA3 za zc oa oc z8
        generalize wC.setRow g8 Vc = wF at *
        have qb : (false != false) = false := rfl
        have z1 := HE.out.one.2.size
        have z2 := HE.out.two.2.size
        go_wp2_with (first | ((with_reducible show wpList _ _ _ ((⟨some 118, Op.load 30 (.tmp 7), _, _, _, _⟩ : Oper) :: _) _ _); refine wpList_load_rowG (by rfl) _ (.tmp 7) rfl w4.heap.size rfl 30 Va (0, 0) _ HE.out.one.1 Try.underlying30 rfl (by rw [z1]; exact info_acc) ?_) | ((with_reducible show wpList _ _ _ ((⟨some 119, Op.load 30 (.tmp 8), _, _, _, _⟩ : Oper) :: _) _ _); refine wpList_load_rowG (by rfl) _ (.tmp 8) rfl g8 rfl 30 Vc (0, 0) _ HE.out.two.1 Try.underlying30 rfl (by rw [z2]; exact info_acc) ?_) | fail)
        refine (rasame_any HE.out.one.2 HE.out.two.2).mono ?_
        rintro e wz ⟨rfl, hbz⟩
        have HZ : Hid (∃ V V' a, Dd w4 wz w4.heap.size g8 V V' a a) := Lib.hid ⟨_, _, _, HE.out.on hbz⟩
        clear hbz z1 z2
        go_wp2
        exact ⟨⟨i + 1, now2, by omega, by go_num, rfl, hn2.1, hn2.2, HZ⟩, by simp [intOf] <;> omega⟩
    have q3 : (kd == 3) = false := by simp [y3]
    clear y3
    as_aux_lemma =>
      have k0 : wc.cell? ⟨gk, 0, none⟩ = some (.int .i64 kd) := HW.out.cell 0
      have k1 : wc.cell? ⟨gk, 1, none⟩ = some (.int .i64 sl) := HW.out.cell 1
      have k2 : wc.cell? ⟨gk, 2, none⟩ = some (.int .i64 nd) := HW.out.cell 2
      have k3 : wc.cell? ⟨gk, 3, none⟩ = some (.int .i64 nc) := HW.out.cell 3
      have HE := HD
      have qb : (false != false) = false := rfl
      have z1 := HE.out.one.2.size
      have z2 := HE.out.two.2.size
      go_wp2_with (first | ((with_reducible show wpList _ _ _ ((⟨some 118, Op.load 30 (.tmp 7), _, _, _, _⟩ : Oper) :: _) _ _); refine wpList_load_rowG (by rfl) _ (.tmp 7) rfl w4.heap.size rfl 30 V (0, 0) _ HE.out.one.1 Try.underlying30 rfl (by rw [z1]; exact info_acc) ?_) | ((with_reducible show wpList _ _ _ ((⟨some 119, Op.load 30 (.tmp 8), _, _, _, _⟩ : Oper) :: _) _ _); refine wpList_load_rowG (by rfl) _ (.tmp 8) rfl g8 rfl 30 V' (0, 0) _ HE.out.two.1 Try.underlying30 rfl (by rw [z2]; exact info_acc) ?_) | fail)
      refine (rasame_any HE.out.one.2 HE.out.two.2).mono ?_
      rintro e wz ⟨rfl, hbz⟩
      have HZ : Hid (∃ V V' a, Dd w4 wz w4.heap.size g8 V V' a a) := Lib.hid ⟨_, _, _, HE.out.on hbz⟩
      clear hbz z1 z2
      go_wp2
      exact ⟨⟨i + 1, now2, by omega, by go_num, rfl, hn2.1, hn2.2, HZ⟩, by simp [intOf] <;> omega⟩
end Go.Proofs.Ytalfcaepobbdeaa
