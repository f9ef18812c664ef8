/-
  Manifests in boxes; the walks of the document's Take and Find.
-/
import Derived.Test.YtiogfkhmigbgpaaDoorXc
namespace Go.Proofs.YtiogfkhmigbgpaaDoor
open Go.RowKit Go.Great
set_option linter.unusedVariables false
set_option linter.unusedSimpArgs false
set_option maxRecDepth 20000
theorem own_setc {w : World} {B e size n cap g k : Nat} {xs : List Value} {u : Value} (h : w.ownsRow B e size (.slice (some ⟨g, 0, none⟩) n cap) n xs) (hk : k < xs.length) :
    (w.setCell ⟨g, k, none⟩ u).ownsRow B e size (.slice (some ⟨g, 0, none⟩) n cap) n (xs.set k u) := by
  rcases h.2 with ⟨h', _⟩ | ⟨g', cap', cur, hv, hb, hh, hnc, hcm, hsz, htk⟩
  · simp at h'
  · injection hv with e1 e2 e3
    injection e1 with e1
    injection e1 with e1
    subst e1 e3
    refine ⟨by rw [List.length_set]; exact h.1, Or.inr ⟨g, cap, cur.setIfInBounds k u, rfl, hb, heap_setCell_same w g k cur e u hh, hnc, hcm, by simp [hsz], ?_⟩⟩
    rw [Array.toList_setIfInBounds, List.take_set, htk]
theorem be_flat (l : List Bool) : BE.flat l = l.map Value.bool := by
  induction l with
  | nil => rfl
  | cons x l ih => rw [Elem.flat_cons, ih]; rfl
theorem be_set {w : World} {B g n c k : Nat} {l : List Bool} (h : BE.Own w B (some ⟨g, 0, none⟩) n c l) (hk : k < n) (x : Bool) : BE.Own (w.setCell ⟨g, k, none⟩ (.bool x)) B (some ⟨g, 0, none⟩) n c (l.set k x) := by
  have := own_setc (u := .bool x) h.own (k := k) (by rw [be_flat, List.length_map, h.len]; exact hk)
  refine ⟨?_, fun _ _ => trivial, by rw [List.length_set]; exact h.len⟩
  have e : BE.flat (l.set k x) = (BE.flat l).set k (.bool x) := by rw [be_flat, be_flat, List.map_set]
  rw [e]; exact this
/-- A manifest in a box; its digests lie in blocks of S. -/
def MB (w : World) (S : Nat → Prop) (g : Nat) (P : Array Value) (m : Mf.Man) : Prop := Whole w g 34 P ∧ Mv w S (.agg P) m
section
variable {w w' : World} {S : Nat → Prop} {g : Nat} {P : Array Value} {m : Mf.Man}
theorem mv_size (h : Mv w S (.agg P) m) : P.size = 35 := by
  obtain ⟨a, n, c, e, hnc, hd, hw, hs, hc⟩ := h
  injection e with e
  rw [e]
  exact msize hw.1
theorem mv_ds (h : Mv w S (.agg P) m) : ∃ a c, P[2]? = some (.slice a m.ds.length c) := by
  obtain ⟨a, n, c, e, hnc, hd, hw, hs, hc⟩ := h
  injection e with e
  rw [e, hd.1]
  exact ⟨a, c, rfl⟩
theorem MB.on (h : MB w S g P m) (hb : Below w.heap.size w w') : MB w' (fun b => b < w.heap.size) g P m := ⟨h.1.below hb h.1.lt, h.2.old.below hb (fun _ _ h => h)⟩
theorem MB.any (h : MB w S g P m) : MB w Any g P m := ⟨h.1, h.2.weak fun _ _ _ => trivial⟩
theorem mb_new {w : World} (h : Mv w S (.agg P) m) : MB (w.alloc (.cells P 34)) Any w.heap.size P m := ⟨Whole.new w _ _, (h.weak (S' := Any) fun _ _ _ => trivial).keep (by simp) fun b hb _ => Below.heap_alloc _ _ _ hb⟩
end
theorem MB.below {w w' : World} {S : Nat → Prop} {g B : Nat} {P : Array Value} {m : Mf.Man} (h : MB w S g P m) (hb : Below B w w') (hg : g < B) (hs : ∀ b, b < w.heap.size → S b → b < B) : MB w' S g P m := ⟨h.1.below hb hg, h.2.below hb hs⟩
theorem mb_old {w : World} {S : Nat → Prop} {P : Array Value} {m : Mf.Man} (h : Mv w S (.agg P) m) : MB (w.alloc (.cells P 34)) (fun b => b < w.heap.size) w.heap.size P m := ⟨Whole.new w _ _, h.old.keep (by simp) fun b hb _ => Below.heap_alloc _ _ _ hb⟩
/-- Chunks and an error are answered. -/
def TkQ (w : World) (l : List Bool) (x : Int) (e : Ending) (w' : World) : Prop := ∃ a n c, e = .returned (.tuple #[.slice a n c, .int .i64 x]) ∧ BE.Row w' Any a n l ∧ Below w.heap.size w w'
theorem Elem.Row.anyon {α : Type} {E : Elem α} {w w' : World} {S : Nat → Prop} {a : Option Addr} {n : Nat} {l : List α} (h : E.Row w S a n l) (hb : Below w.heap.size w w') : E.Row w' Any a n l := h.any.on hb
theorem bool_info : (Tryd.prog.info? 4).map (fun i => (i.zero, i.size, i.bytes)) = some (some (.bool false), 1, 1) := by kernel_rfl
set_option maxHeartbeats 4000000 in
theorem rtake_any {w : World} {S S1 S2 : Nat → Prop} {P : Array Value} {m : Mf.Man} (h : Mv w S (.agg P) m) {a : Option Addr} {n c : Nat} {hv : List Bool} (hr : BE.Row w S1 a n hv) (hn : n ≤ 100000) (i : Int) (hi : In64 i) {a0 : Option Addr} {n0 p0 : Nat} {l0 : List Int} (hb : Txt w S2 a0 n0 p0 l0) (hn0 : n0 ≤ 800000) :
    Calls Tryd.prog 15 #[.agg P, .slice a n c, .int .i64 i, .slice a0 n0 p0] w (TkQ w (Tr.take m hv i l0).1 (Tr.take m hv i l0).2) := by
  have hP := mv_size h
  obtain ⟨ad, cd, hP2⟩ := mv_ds h
  have bb := below_alloc w (.cells P 34)
  have HM := Lib.hid (mb_new h)
  have HR := Lib.hid (hr.anyon bb)
  have HN := Lib.hid hr.1
  have HT := Lib.hid (hb.old.below bb (fun _ _ h => h))
  have HB := Lib.hid bb
  have HI := Lib.hid hi
  obtain ⟨r, hr'⟩ : ∃ r, Tr.take m hv i l0 = r := ⟨_, rfl⟩
  have HE := Lib.hid hr'
  rw [hr']
  obtain ⟨w1, hw1⟩ : ∃ w1, w.alloc (.cells P 34) = w1 := ⟨_, rfl⟩
  rw [hw1] at HM HR HT HB
  have HW := Lib.hid hw1
  clear h hr hb hi hr' bb hw1
  go_enter Tryd.func15, Tryd.ntmps15
  go_upto_region 1 with fail
  rw [HW.out]
  obtain ⟨g, hg⟩ : ∃ g, w.heap.size = g := ⟨_, rfl⟩
  rw [hg] at HM ⊢
  go_wp2_with (first | ((with_reducible show wpList _ _ _ ((⟨some 12, Op.load 34 (.tmp 4), _, _, _, _⟩ : Oper) :: _) _ _); refine wpList_load_rowG (by rfl) _ (.tmp 4) rfl g rfl 34 P (0, 0) _ HM.out.1 Tryd.underlying34 rfl (by rw [hP]; exact info35) ?_) | fail)
  refine (rverify_any HM.out.2 HI.out HT.out hn0).mono ?_
  rintro e w2 ⟨rfl, hb2⟩
  have HM := Lib.hid (HM.out.on hb2).any
  have HR := Lib.hid (HR.out.on hb2)
  have HB := Lib.hid (HB.out.trans (hb2.mono HB.out.size))
  clear hb2 HT
  obtain ⟨x, hx⟩ : ∃ x, Mf.ver m i l0 = x := ⟨_, rfl⟩
  have HX := Lib.hid hx
  rw [hx]
  clear hx
  by_cases hx0 : x = 0
  case neg =>
    have hx1 : (x != 0) = true := by simpa using hx0
    have HV : Hid (r = (hv, x)) := Lib.hid (by rw [← HE.out]; unfold Tr.take; rw [HX.out, if_pos hx0])
    clear hx0
    go_wp2
    go_ret2
    rw [HV.out]
    exact ⟨a, n, c, rfl, HR.out, HB.out⟩
  have hoff : Hid (¬ Mf.off m i) := Lib.hid (fun ho => by have := ver_off (b := l0) ho; rw [HX.out, hx0] at this; cases this)
  subst hx0
  have c2 : w2.cell? ⟨g, 2, none⟩ = some (.slice ad m.ds.length cd) := by rw [HM.out.1.cell]; exact hP2
  obtain ⟨k, hk⟩ : ∃ k, m.ds.length = k := ⟨_, rfl⟩
  have HK := Lib.hid hk
  rw [hk] at c2
  clear hk
  by_cases hl : n = k
  case neg =>
    have hl' : ((n : Int) != (k : Int)) = true := by simp; omega
    have HV : Hid (r = (hv, 1)) := Lib.hid (by rw [← HE.out]; unfold Tr.take; rw [HX.out, if_neg (by simp), if_pos (by rw [HN.out, HK.out]; exact hl)])
    clear hl
    go_wp2
    go_ret2
    rw [HV.out]
    exact ⟨a, n, c, rfl, HR.out, HB.out⟩
  subst hl
  have hl' : ((n : Int) != (n : Int)) = false := by simp
  have HV : Hid (r = (hv.set i.toNat true, 0)) := Lib.hid (by rw [← HE.out]; unfold Tr.take; rw [HX.out, if_neg (by simp), if_neg (by rw [HN.out, HK.out]; simp)])
  have hin := Mf.off_not hoff.out
  rw [HK.out] at hin
  obtain ⟨j, rfl⟩ : ∃ j : Nat, i = (j : Int) := ⟨i.toNat, by omega⟩
  have hj : j < n := by omega
  clear hin hoff
  go_wp2_with (first
    | (at_builtin; refine BE.wpList_append _ (by rfl) (.tmp 27) (.tmp 28) rfl w2.heap.size (.slice (some ⟨w2.heap.size, 0, none⟩) 0 0) 0 [] rfl (BE.empty_own w2) Any a n c hv rfl (HR.out.on (below_alloc w2 (.cells #[] 4))) (by omega) (by omega) (by simp) ?_)
    | ((with_reducible show wpList _ _ _ ((⟨_, Op.buildSlice _ 0 _, _, _, _, _⟩ : Oper) :: _) _ _); refine BE.wpList_build0 (by rfl) rfl ?_)
    | fail)
  intro v5 w5 hown hg5 _
  obtain ⟨a5, c5, rfl, h5, hb5⟩ := BE.copied HN.out (fun _ _ => trivial) hown hg5
  have hz : w.heap.size ≤ w2.heap.size := HB.out.size
  have HB := Lib.hid (HB.out.trans (hb5.mono HB.out.size))
  obtain ⟨g5, cur, rfl, hg5', hlt5, _, hw5, hn5, ht5⟩ := h5.form (by omega)
  have HO := Lib.hid (And.intro h5 (And.intro hg5' (h5.row.weak (fun _ _ _ => trivial : ∀ b, b < w5.heap.size → w2.heap.size ≤ b → Any b))))
  obtain ⟨y, hy⟩ : ∃ y, w5.cell? ⟨g5, j, none⟩ = some y := by
    have := hw5.cell j
    rw [List.getElem?_toArray] at this
    exact ⟨cur[j]'(by rw [show BE.K = 1 from rfl] at hn5; omega), by rw [this]; simp [show j < cur.length by rw [show BE.K = 1 from rfl] at hn5; omega]⟩
  have fy := hw5.frozen j
  have q : (j : Int) < (n : Int) := by omega
  clear hown hg5 hb5 h5 hlt5 hw5 hn5 ht5 hg5'
  go_wp2
  go_ret2
  rw [HV.out, Int.toNat_natCast]
  exact ⟨_, n, c5, rfl, (be_set HO.out.1 hj true).any, HB.out.setCell (p := ⟨g5, j, none⟩) (Nat.le_trans hz HO.out.2.1) _⟩
theorem slice_mid {a : Option Addr} {n c i j : Nat} (h1 : i ≤ j) (h2 : j ≤ c) (w : World) : (Instr.slice 35 (.slice a n c) (some (.int .i64 (i : Int))) (some (.int .i64 (j : Int))) none).run Tryd.prog w = .ok (.slice (if c = i then a else a.map (·.add i)) (j - i) (c - i)) w := by
  have hb : (0 : Int) ≤ (j : Int) ∧ (j : Int) ≤ (c : Int) := by omega
  have ha : (0 : Int) ≤ (i : Int) ∧ (i : Int) ≤ (j : Int) := by omega
  simp only [Instr.slice, Instr.sliceBounds, Instr.sliceBound, Sem.run_bind, Sem.run_pure, Result.andThen_ok, run_underlying Tryd.underlying35, asIntOf, if_pos hb, if_pos ha, sz_u8, Int.toNat_natCast, Nat.mul_one]
theorem txt_mid {w : World} {S : Nat → Prop} {a : Option Addr} {n c i j : Nat} {l : List Int} (h : Txt w S a n c l) (h1 : i ≤ j) (h2 : j ≤ n) : Txt w S (if c = i then a else a.map (·.add i)) (j - i) (c - i) ((l.drop i).take (j - i)) :=
  (h.drop i (by omega)).take (j - i) (by omega)
/-- Chunks are answered, in memory of their own. -/
def BoQ (w : World) (l : List Bool) (e : Ending) (w' : World) : Prop := ∃ a n c, e = .returned (.slice a n c) ∧ BE.Own w' w.heap.size a n c l ∧ Below w.heap.size w w'
theorem find_len (m : Mf.Man) (b : List Int) : (Tr.find m b).length = if m.bad then 0 else m.ds.length := by
  unfold Tr.find
  split <;> simp
theorem min_cut (l : List Int) {f t : Nat} (hft : f ≤ t) : (l.drop (min f l.length)).take (min t l.length - min f l.length) = (l.drop f).take (t - f) := by
  by_cases h : f ≤ l.length
  · rw [Nat.min_eq_left h]
    by_cases h2 : t ≤ l.length
    · rw [Nat.min_eq_left h2]
    · rw [Nat.min_eq_right (by omega), List.take_of_length_le (by simp), List.take_of_length_le (by simp; omega)]
  · rw [Nat.min_eq_right (by omega), Nat.min_eq_right (by omega)]
    rw [List.drop_eq_nil_of_le (show l.length ≤ l.length from Nat.le_refl _), List.drop_eq_nil_of_le (show l.length ≤ f by omega)]
    simp
set_option maxHeartbeats 8000000 in
theorem rfind_any {w : World} {S S2 : Nat → Prop} {P : Array Value} {m : Mf.Man} (h : Mv w S (.agg P) m) {a0 : Option Addr} {n0 p0 : Nat} {l0 : List Int} (hb : Txt w S2 a0 n0 p0 l0) (hn0 : n0 ≤ 800000) :
    Calls Tryd.prog 18 #[.agg P, .slice a0 n0 p0] w (BoQ w (Tr.find m l0)) := by
  have hP := mv_size h
  obtain ⟨ad, cd, hP2⟩ := mv_ds h
  have bb := below_alloc w (.cells P 34)
  have HM := Lib.hid (mb_old h)
  have HT := Lib.hid (hb.old.below bb (fun _ _ h => h))
  have HB := Lib.hid bb
  obtain ⟨r, hr'⟩ : ∃ r, Tr.find m l0 = r := ⟨_, rfl⟩
  have HE := Lib.hid hr'
  rw [hr']
  obtain ⟨w1, hw1⟩ : ∃ w1, w.alloc (.cells P 34) = w1 := ⟨_, rfl⟩
  rw [hw1] at HM HT HB
  have HW := Lib.hid hw1
  have HLN := Lib.hid hb.1
  have hnp := hb.2.1
  clear h hb hr' bb hw1
  go_enter Tryd.func18, Tryd.ntmps18
  go_upto_region 1 with fail
  rw [HW.out]
  obtain ⟨g, hg⟩ : ∃ g, w.heap.size = g := ⟨_, rfl⟩
  rw [hg] at HM HT ⊢
  go_wp2_with (first | ((with_reducible show wpList _ _ _ ((⟨some 10, Op.load 34 (.tmp 2), _, _, _, _⟩ : Oper) :: _) _ _); refine wpList_load_rowG (by rfl) _ (.tmp 2) rfl g rfl 34 P (0, 0) _ HM.out.1 Tryd.underlying34 rfl (by rw [hP]; exact info35) ?_) | fail)
  refine (rcheck_any HM.out.2).mono ?_
  rintro e w2 ⟨rfl, hb2⟩
  have HM := Lib.hid (HM.out.below hb2 HM.out.1.lt (fun b h _ => h))
  have HT := Lib.hid (HT.out.below hb2 (fun b h _ => h))
  have HB := Lib.hid (HB.out.trans (hb2.mono HB.out.size))
  clear hb2
  by_cases hbad : m.bad
  case pos =>
    have HV : Hid (r = []) := Lib.hid (by rw [← HE.out]; unfold Tr.find; exact if_pos hbad)
    have hx1 : (Mf.chk m != 0) = true := by have := Mf.chk_ne.2 hbad; simpa using this
    clear hbad
    go_wp2
    go_ret
    rw [HV.out]
    exact ⟨none, 0, 0, rfl, Elem.Own.nil _ _, HB.out⟩
  have hx0 : (Mf.chk m != 0) = false := by simp [Mf.chk_zero hbad]
  obtain ⟨k, hk⟩ : ∃ k, m.ds.length = k := ⟨_, rfl⟩
  have HK : Hid (m.ds.length = k ∧ ¬ m.bad) := Lib.hid ⟨hk, hbad⟩
  have hk64 : k ≤ 64 := by rw [← hk]; unfold Mf.Man.bad at hbad; have := Mf.cnt_le m.size m.chunk; omega
  rw [hk] at hP2
  clear hbad hk
  go_wp2
  have H0 := Lib.hid (And.intro HM.out (And.intro HT.out HB.out))
  have hgw : g ≤ w2.heap.size := by have := HM.out.1.lt; omega
  clear HM HT HB
  go_loopw [5, 6, 7, 8, 9] (fun v iv _ _ _ wr => ∃ (j c : Nat) (a : Option Addr), j ≤ k ∧ v = .slice a j c ∧ iv = .int .i64 (j : Int) ∧ Hid (BE.Own wr (g + 1) a j c (r.take j) ∧ MB wr (fun b => b < g) g P m ∧ Txt wr (fun b => b < g) a0 n0 p0 l0 ∧ Below w.heap.size w wr)) (fun _ v _ _ _ _ => k - (intOf v).toNat)
  case atStart => exact ⟨0, 0, none, Nat.zero_le _, rfl, rfl, Lib.hid ⟨Elem.Own.nil _ _, H0.out.1, H0.out.2.1, H0.out.2.2⟩⟩
  case round =>
    clear H0 hgw
    obtain ⟨j, c, a, hj, rfl, rfl, HJ⟩ := hrel
    have c2 : wr.cell? ⟨g, 2, none⟩ = some (.slice ad k cd) := by rw [HJ.out.2.1.1.cell]; exact hP2
    by_cases hlt : j < k
    case neg =>
      obtain rfl : j = k := by omega
      have q : ¬ ((j : Int) < (j : Int)) := by omega
      have HV : Hid (r.take j = r) := Lib.hid (List.take_of_length_le (by rw [← HE.out, find_len, if_neg HK.out.2, HK.out.1]; exact Nat.le_refl _))
      go_wp2
      go_ret
      exact ⟨a, j, c, rfl, by rw [← HV.out, hg]; exact HJ.out.1.mono (Nat.le_succ _), HJ.out.2.2.2⟩
    have q : (j : Int) < (k : Int) := by omega
    have hoff : ¬ Mf.off m (j : Int) := by
      have := HK.out
      rintro (h | h | h)
      · exact this.2 h
      · omega
      · omega
    have ho := Mf.off_not hoff
    have ht := Mf.til_ne hoff
    have hfn : 0 ≤ Mf.fr m (j : Int) := by unfold Mf.fr; rw [if_neg hoff]; exact ho.2.2.2.2.2.2.2.2.1
    obtain ⟨f, hf⟩ : ∃ f : Nat, Mf.fr m (j : Int) = (f : Int) := ⟨(Mf.fr m (j : Int)).toNat, by omega⟩
    clear hfn
    have hf0 : 0 ≤ Mf.fr m (j : Int) := by rw [hf]; omega
    obtain ⟨t, htt⟩ : ∃ t : Nat, Mf.til m (j : Int) = (t : Int) := ⟨(Mf.til m (j : Int)).toNat, by have := ht.2.1; omega⟩
    have hft : f ≤ t := by have := ht.2.1; rw [hf, htt] at this; omega
    have HFT := Lib.hid (And.intro hf htt)
    have HM := Lib.hid HJ.out.2.1
    have HO := Lib.hid (And.intro HJ.out.1 (And.intro HJ.out.2.2.1 HJ.out.2.2.2))
    clear hoff ho ht HJ hf0
    go_wp2_with (first | ((with_reducible show wpList _ _ _ ((⟨some 21, Op.load 34 (.tmp 2), _, _, _, _⟩ : Oper) :: _) _ _); refine wpList_load_rowG (by rfl) _ (.tmp 2) rfl g rfl 34 P (0, 0) _ HM.out.1 Tryd.underlying34 rfl (by rw [hP]; exact info35) ?_) | fail)
    refine (rpart_any HM.out.2 (by constructor <;> omega)).mono ?_
    rintro e w3 ⟨rfl, hb3⟩
    rw [hf, htt]
    clear hf htt
    have HM := Lib.hid (HM.out.below hb3 HM.out.1.lt (fun b h _ => h))
    have HO := Lib.hid (And.intro (HO.out.1.below hb3) (And.intro (HO.out.2.1.below hb3 (fun b h _ => h)) (HO.out.2.2.trans (hb3.mono HO.out.2.2.size))))
    clear hb3
    go_upto_region 8 with fail
    have hms := slice_mid (a := a0) (n := n0) (c := p0) (i := min f n0) (j := min t n0) (by omega) (by omega)
    have hm1 : (min (f : Int) (n0 : Int)) = ((min f n0 : Nat) : Int) := by omega
    have hm2 : (min (t : Int) (n0 : Int)) = ((min t n0 : Nat) : Int) := by omega
    go_upto_region 9 with fail
    clear hms hm1 hm2
    have hn0' : min t n0 ≤ n0 := Nat.min_le_right _ _
    have hff : min f n0 ≤ min t n0 := by omega
    have HTX := Lib.hid (txt_mid HO.out.2.1 hff hn0')
    have HPT : Hid ((l0.drop (min f n0)).take (min t n0 - min f n0) = Tr.part m l0 j) := Lib.hid (by
      rw [← HLN.out, min_cut l0 hft]
      unfold Tr.part
      rw [HFT.out.1, HFT.out.2, Int.toNat_natCast, Int.toNat_natCast])
    rw [HPT.out] at HTX
    have hsm : min t n0 - min f n0 ≤ 800000 := by omega
    clear hn0' hff HPT
    generalize (if p0 = min f n0 then a0 else Option.map (fun x => x.add (min f n0)) a0) = A at *
    generalize min t n0 - min f n0 = N at *
    generalize p0 - min f n0 = C at *
    go_wp2_with (first | ((with_reducible show wpList _ _ _ ((⟨some 37, Op.load 34 (.tmp 2), _, _, _, _⟩ : Oper) :: _) _ _); refine wpList_load_rowG (by rfl) _ (.tmp 2) rfl g rfl 34 P (0, 0) _ HM.out.1 Tryd.underlying34 rfl (by rw [hP]; exact info35) ?_) | fail)
    refine (rverify_any HM.out.2 (by constructor <;> omega) HTX.out hsm).mono ?_
    rintro e w4 ⟨rfl, hb4⟩
    have HM := Lib.hid (HM.out.below hb4 HM.out.1.lt (fun b h _ => h))
    have HO := Lib.hid (And.intro (HO.out.1.below hb4) (And.intro (HO.out.2.1.below hb4 (fun b h _ => h)) (HO.out.2.2.trans (hb4.mono HO.out.2.2.size))))
    clear hb4 HTX
    have hgw : g + 1 ≤ w4.heap.size := HM.out.1.lt
    obtain ⟨y, hy⟩ : ∃ y, decide (Mf.ver m (j : Int) (Tr.part m l0 j) = 0) = y := ⟨_, rfl⟩
    have hyy : (Mf.ver m (j : Int) (Tr.part m l0 j) == 0) = y := by rw [← hy]; rfl
    have HS : Hid (r.take (j + 1) = r.take j ++ [y]) := Lib.hid (by
      have hlt2 : j < r.length := by rw [← HE.out, find_len, if_neg HK.out.2, HK.out.1]; exact hlt
      rw [List.take_succ_eq_append_getElem hlt2]
      have : r[j] = y := by
        have e2 : r[j]? = some y := by
          rw [← HE.out]
          unfold Tr.find
          rw [if_neg HK.out.2, List.getElem?_map, List.getElem?_range (by rw [HK.out.1]; exact hlt)]
          rw [Option.map_some, hy]
        rw [List.getElem?_eq_getElem hlt2] at e2
        exact Option.some.inj e2
      rw [this])
    obtain ⟨z, hz⟩ : ∃ z, Mf.ver m (j : Int) (Tr.part m l0 j) = z := ⟨_, rfl⟩
    rw [hz] at hyy ⊢
    clear hy hz
    go_wp2_with (first | (at_builtin; refine BE.wpList_append _ (by rfl) (.tmp 36) (.tmp 42) rfl (g + 1) _ j (BE.flat (r.take j)) rfl (Elem.own_keep HO.out.1.own (fun b hq => Below.heap_alloc w4 _ b (HO.out.1.own.lt b hq).2)) Any (some ⟨w4.heap.size, 0, none⟩) 1 1 [y] rfl (BE.row_one (Whole.new _ _ _) trivial trivial) (by omega) (by omega) (by simp; omega) ?_) | fail)
    intro v5 w5 hown hg5 _
    obtain ⟨a5, c5, rfl, h5⟩ := BE.own_add HO.out.1 trivial hown
    rw [← HS.out] at h5
    have hb5 : Below (g + 1) w4 w5 := ((Below.refl (g + 1) w4).alloc hgw _).grown hg5 (by simp; omega) (Elem.own_ge HO.out.1.own)
    have HJ5 : Hid (BE.Own w5 (g + 1) a5 (j + 1) c5 (r.take (j + 1)) ∧ MB w5 (fun b => b < g) g P m ∧ Txt w5 (fun b => b < g) a0 n0 p0 l0 ∧ Below w.heap.size w w5) := Lib.hid
      ⟨h5, HM.out.below hb5 (Nat.lt_succ_self g) (fun b _ (h : b < g) => Nat.lt_succ_of_lt h), HO.out.2.1.below hb5 (fun b _ (h : b < g) => Nat.lt_succ_of_lt h), HO.out.2.2.trans (hb5.mono (by rw [hg]; exact Nat.le_succ g))⟩
    clear hown hg5 h5
    go_wp2
    exact ⟨⟨j + 1, c5, a5, by omega, rfl, by go_num, HJ5⟩, by simp [intOf]; omega⟩
end Go.Proofs.YtiogfkhmigbgpaaDoor
