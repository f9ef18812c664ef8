/-
  slices.Clone of facts and of digests; the walk of Manifest.
-/
import Derived.Test.YtdfmfjahnnifnaaAf
namespace La
open Ft
theorem idx_cases (p : Fact → Bool) (l : List Fact) : (idx p l = -1 ∧ ∀ i, i < l.length → p (l.getD i nought) = false) ∨ ∃ j : Nat, j < l.length ∧ idx p l = (j : Int) ∧ p (l.getD j nought) = true ∧ ∀ i, i < j → p (l.getD i nought) = false := by
  unfold idx
  by_cases h : l.findIdx p < l.length
  · rw [if_pos h]
    refine Or.inr ⟨_, h, rfl, ?_, fun i hi => ?_⟩
    · have := List.findIdx_getElem (w := h)
      simpa [h] using this
    · have h1 := List.not_of_lt_findIdx hi
      have h2 : i < l.length := by omega
      simpa [h2] using h1
  · rw [if_neg h]
    refine Or.inl ⟨rfl, fun i hi => ?_⟩
    have h1 : ∀ x ∈ l, ¬ p x = true := fun x hx hp => h (List.findIdx_lt_length_of_exists ⟨x, hx, hp⟩)
    have := h1 l[i] (List.getElem_mem hi)
    simpa [hi] using this
end La
namespace Go.Proofs.Ytdfmfjahnnifnaa
set_option maxRecDepth 20000
set_option linter.unusedSimpArgs false
set_option linter.unusedVariables false
open Go.RowKit Go.Great Go.Shelf
theorem wpList_build0 {ops : Array Oper} {rest : List Oper} {o : Oper} {a : Act} {w : World} {Q : Exit → Act → World → Prop} (hg : Region.wanted o (yielded ops a.tmps) = true) (ho : o.op = .buildSlice 23 0 #[])
    (h : wpList Try.prog ops Q rest (a.put o.dst (.slice (some ⟨w.heap.size, 0, none⟩) 0 0)) (w.alloc (.cells #[] 30))) : wpList Try.prog ops Q (o :: rest) a w :=
  wpList_step fun _ hK => by rw [if_pos hg]; exact wp_build0 ho (hK _ _ h)
theorem sz_dig (w : World) : (sizeOf 26).run Try.prog w = .ok 32 w := by
  obtain ⟨i, hi, hz, hsize, hby⟩ := info_parts dig_info
  simp [sizeOf, typeInfo, hi, hsize]
theorem run_build0D (w : World) : (Instr.buildSlice 25 0 #[]).run Try.prog w = .ok (.slice (some ⟨w.heap.size, 0, none⟩) 0 0) (w.alloc (.cells #[] 26)) := by
  have e : Array.map (fun _ => (default : Value)) (Array.range 0) = #[] := by simp
  simp [Instr.buildSlice, run_underlying Try.underlying25, sz_dig, Instr.fill, newRow, e]
theorem wpList_build0D {ops : Array Oper} {rest : List Oper} {o : Oper} {a : Act} {w : World} {Q : Exit → Act → World → Prop} (hg : Region.wanted o (yielded ops a.tmps) = true) (ho : o.op = .buildSlice 25 0 #[])
    (h : wpList Try.prog ops Q rest (a.put o.dst (.slice (some ⟨w.heap.size, 0, none⟩) 0 0)) (w.alloc (.cells #[] 26))) : wpList Try.prog ops Q (o :: rest) a w :=
  wpList_step fun _ hK => by
    rw [if_pos hg]
    unfold Oper.wp execOp
    simp only [ho, Sem.run_bind, List.map_toArray, List.map_nil, Array.map_empty, run_build0D, Result.andThen_ok]
    exact hK _ _ h
theorem nilF_yes (n c : Nat) (w : World) : (binOp .eql 23 (.slice none n c) (.slice none 0 0)).run Try.prog w = .ok (.bool true) w := by kernel_rfl
theorem nilF_no (ad : Addr) (n c : Nat) (w : World) : (binOp .eql 23 (.slice (some ad) n c) (.slice none 0 0)).run Try.prog w = .ok (.bool false) w := by kernel_rfl
theorem nilD_yes (n c : Nat) (w : World) : (binOp .eql 25 (.slice none n c) (.slice none 0 0)).run Try.prog w = .ok (.bool true) w := by kernel_rfl
theorem nilD_no (ad : Addr) (n c : Nat) (w : World) : (binOp .eql 25 (.slice (some ad) n c) (.slice none 0 0)).run Try.prog w = .ok (.bool false) w := by kernel_rfl
/-- A list of facts is cloned. -/
def ClF (w : World) (n : Nat) (R : List Fm) (e : Ending) (w' : World) : Prop := ∃ a c, e = .returned (.slice a n c) ∧ Lay w' w.heap.size a n c R ∧ Below w.heap.size w w'
set_option maxHeartbeats 2000000 in
theorem cloneF_any {w : World} {S D : Nat → Prop} {a : Option Addr} {n c : Nat} {R : List Fm} (h : Fts w S D a n R) (hn : n ≤ 100000) :
    Calls Try.prog 39 #[.slice a n c] w (ClF w n R) := by
  cases a with
  | none =>
    have hl : R = [] := by
      rcases h.2.2 with h | ⟨b, off, h, _⟩
      · exact h
      · cases h
    subst hl
    have hm0 : n = 0 := h.1.symm
    subst hm0
    clear h
    have hq := nilF_yes 0 c
    go_enter Try.func39, Try.ntmps39
    go_wp2
    go_ret
    exact ⟨none, 0, rfl, Lay.nil _ _, Below.refl _ _⟩
  | some ad =>
    have hb1 := below_alloc w (.cells #[] 30)
    have HO : Hid ((w.alloc (.cells #[] 30)).ownsRow w.heap.size 30 38 (.slice (some ⟨w.heap.size, 0, none⟩) 0 0) 0 []) := Lib.hid (World.ownsRow_lit (base := w.heap.size) (size := 38) (e := 30) w #[] 0 (Nat.le_refl _) (Nat.zero_le _) rfl)
    have HR := Lib.hid h.old.2.1
    have HLN := Lib.hid h.1
    have H := Lib.hid (h.old.below hb1 (fun _ _ h => h) (fun _ _ h => h))
    have HB := Lib.hid hb1
    clear h hb1
    have hq := nilF_no ad n c
    go_enter Try.func39, Try.ntmps39
    go_wp2_with (first
      | ((with_reducible show wpList _ _ _ ((⟨_, Op.buildSlice _ _ _, _, _, _, _⟩ : Oper) :: _) _ _); refine wpList_build0 (by rfl) rfl ?_)
      | (at_builtin; refine wpList_append_facts factsU _ (by rfl) (.tmp 5) (.tmp 6) rfl w.heap.size (.slice (some ⟨w.heap.size, 0, none⟩) 0 0) 0 [] rfl HO.out (fun b => b < w.heap.size) (fun b => b < w.heap.size) (some ad) n c R rfl H.out (by omega) (by omega) HB.out.size ?_)
      | fail)
    intro v' w' hown hg _
    have hb2 := HB.out.grown hg HB.out.size (own_ge HO.out)
    try simp only [List.nil_append, Nat.zero_add] at hown
    have hrows : ∀ x ∈ R, Rw w' (fun b => b < w.heap.size) x := fun x hx => (HR.out x hx).below hb2 (fun _ _ h => h)
    obtain ⟨a', c', rfl, _, _⟩ := own_facts hown hrows HLN.out
    have HX := Lib.hid (And.intro (Lay.mk hown hrows HLN.out) hb2)
    clear hown hg hb2 hrows
    go_wp2
    go_ret
    exact ⟨a', c', rfl, HX.out.1, HX.out.2⟩
/-- A list of digests is cloned. -/
def ClD (w : World) (n : Nat) (ds : List (List Int)) (e : Ending) (w' : World) : Prop := ∃ a c, e = .returned (.slice a n c) ∧ n ≤ c ∧ Digs w' (w.heap.size ≤ ·) a n ds ∧ Below w.heap.size w w'
set_option maxHeartbeats 2000000 in
theorem cloneD_any {w : World} {S : Nat → Prop} {a : Option Addr} {n c : Nat} {ds : List (List Int)} (h : Digs w S a n ds) (hn : n ≤ 100000) :
    Calls Try.prog 46 #[.slice a n c] w (ClD w n ds) := by
  cases a with
  | none =>
    have hl : ds = [] := by
      rcases h.2.2 with h | ⟨b, off, h, _⟩
      · exact h
      · cases h
    subst hl
    have hm0 : n = 0 := h.1.symm
    subst hm0
    clear h
    have hq := nilD_yes 0 c
    go_enter Try.func46, Try.ntmps46
    go_wp2
    go_ret
    exact ⟨none, 0, rfl, Nat.le_refl _, Digs.nil _ _ _, Below.refl _ _⟩
  | some ad =>
    have hb1 := below_alloc w (.cells #[] 26)
    have HO : Hid ((w.alloc (.cells #[] 26)).ownsRow w.heap.size 26 32 (.slice (some ⟨w.heap.size, 0, none⟩) 0 0) 0 []) := Lib.hid (World.ownsRow_lit (base := w.heap.size) (size := 32) (e := 26) w #[] 0 (Nat.le_refl _) (Nat.zero_le _) rfl)
    have HLN := Lib.hid (And.intro h.1 h.2.1)
    have H : Hid (Digs (w.alloc (.cells #[] 26)) S (some ad) n ds) := Lib.hid (h.keep hb1.size (fun b hlt _ => hb1.block b hlt))
    have HB := Lib.hid hb1
    clear h hb1
    have hq := nilD_no ad n c
    go_enter Try.func46, Try.ntmps46
    go_wp2_with (first
      | ((with_reducible show wpList _ _ _ ((⟨_, Op.buildSlice _ _ _, _, _, _, _⟩ : Oper) :: _) _ _); refine wpList_build0D (by rfl) rfl ?_)
      | (at_builtin; refine wpList_append_digs _ rfl (.tmp 5) (.tmp 6) rfl w.heap.size (.slice (some ⟨w.heap.size, 0, none⟩) 0 0) 0 [] rfl HO.out S (some ad) n c ds rfl H.out (by omega) (by omega) HB.out.size ?_)
      | fail)
    intro v' w' hown hg _
    have hb2 := HB.out.grown hg HB.out.size (fun k hk => (HO.out.lt k hk).1)
    try simp only [List.nil_append, Nat.zero_add] at hown
    obtain ⟨a', c', rfl, hc', hd'⟩ := own_digs hown HLN.out.2 HLN.out.1
    have HX := Lib.hid (And.intro hc' (And.intro hd' hb2))
    clear hown hg hb2 hc' hd'
    go_wp2
    go_ret
    exact ⟨a', c', rfl, HX.out.1, HX.out.2.1, HX.out.2.2⟩
set_option maxHeartbeats 2000000 in
theorem mani1_any {W : World} {D : Nat → Prop} {x : Fm} (hx : Rw W D x) {A : Nat} {e : Int} (hA : W.cell? ⟨A, 0, none⟩ = some (.int .i64 e)) :
    Calls Try.prog 45 #[.agg (fc x).toArray, .pointer (some ⟨A, 0, none⟩)] W fun r w' => r = .returned (.bool (La.whose 1 e x.1)) ∧ Below W.heap.size W w' := by
  have hfb := fb_new hx
  have k0 := hfb.c0
  have k1 := hfb.c1
  have a0 := cell_alloc hA (.cells (fc x).toArray 30)
  have HB := Lib.hid (below_alloc W (.cells (fc x).toArray 30))
  clear hA hfb hx
  obtain ⟨⟨xk, xe, xn, xm⟩, xM⟩ := x
  simp only at k0 k1
  obtain ⟨X, hX⟩ : ∃ X, fc ((⟨xk, xe, xn, xm⟩, xM) : Fm) = X := ⟨_, rfl⟩
  rw [hX] at k0 k1 a0 HB ⊢
  clear hX
  obtain ⟨t, ht⟩ : ∃ t, La.whose 1 e (((⟨xk, xe, xn, xm⟩, xM) : Fm).1) = t := ⟨_, rfl⟩
  rw [ht]
  have ht' : decide (xk = 1 ∧ xe = e) = t := ht
  have HT := Lib.hid ht'
  clear ht ht'
  generalize hw1 : W.alloc (.cells X.toArray 30) = w1 at *
  by_cases z0 : xk = 1
  case neg =>
    have q0 : (xk == 1) = false := by simp [z0]
    have HV : Hid (t = false) := Lib.hid (by rw [← HT.out]; simp [z0])
    clear z0
    go_enter Try.func45, Try.ntmps45
    go_wp2
    go_ret
    exact ⟨ret_bool HV.out.symm, HB.out⟩
  have q0 : (xk == 1) = true := by simp [z0]
  by_cases z1 : xe = e
  case neg =>
    have q1 : (xe == e) = false := by simp [z1]
    have HV : Hid (t = false) := Lib.hid (by rw [← HT.out]; simp [z1])
    clear z0 z1
    go_enter Try.func45, Try.ntmps45
    go_wp2
    go_ret
    exact ⟨ret_bool HV.out.symm, HB.out⟩
  have q1 : (xe == e) = true := by simp [z1]
  have HV : Hid (t = true) := Lib.hid (by rw [← HT.out]; simp [z0, z1])
  clear z0 z1
  go_enter Try.func45, Try.ntmps45
  go_wp2
  go_ret
  exact ⟨ret_bool HV.out.symm, HB.out⟩
theorem eg_mani : ∀ args w, (callFunc 45 args).run Try.prog w = .ok (.enter 45 args) w := enters_of Try.func45 (by kernel_rfl) rfl
theorem pred_mani {w : World} {A : Nat} {e : Int} (hA : w.cell? ⟨A, 0, none⟩ = some (.int .i64 e)) :
    Pred 45 #[.pointer (some ⟨A, 0, none⟩)] (La.whose 1 e) w := by
  intro W D x hW hx
  have c1 := (hW.cell (p := ⟨A, 0, none⟩) (World.block_lt_of_cell? w _ hA)).trans hA
  exact mani1_any hx c1
set_option maxHeartbeats 4000000 in
theorem mani_any {w : World} {S D : Nat → Prop} {a : Option Addr} {n c : Nat} {R : List Fm} (h : Fts w S D a n R) (hn : n ≤ 100000) (hf : ∀ x ∈ R, x.1.man.ds.length ≤ 1000) (ep : Int) :
    Calls Try.prog 17 #[.slice a n c, .int .i64 ep] w (ManiQ w (La.mani (FS R) ep)) := by
  have hmf : ∀ (fn : Fn) (first cap : Array Value) (w : World), (Instr.makeFunc fn first cap).run Try.prog w = .ok (.func fn first cap) w := fun _ _ _ _ => rfl
  have hb2 : Below w.heap.size w ((w.alloc (.cells #[.int .i64 ep] 2)).alloc (.cells zm 28)) := (below_alloc w _).alloc (by simp) _
  have c1 : ((w.alloc (.cells #[.int .i64 ep] 2)).alloc (.cells zm 28)).cell? ⟨w.heap.size, 0, none⟩ = some (.int .i64 ep) := cell_alloc ((Whole.new w 2 #[.int .i64 ep]).cell 0) _
  have hz2 : Whole ((w.alloc (.cells #[.int .i64 ep] 2)).alloc (.cells zm 28)) (w.heap.size + 1) 28 zm := by
    have := Whole.new (w.alloc (.cells #[.int .i64 ep] 2)) 28 zm
    rw [size_alloc] at this
    exact this
  have H2 := h.old.below hb2 (fun _ _ h => h) (fun _ _ h => h)
  have HC := Lib.hid (index_any (c := c) eg_mani (pred_mani c1) H2 (by omega))
  have HLN := Lib.hid h.1
  have H := Lib.hid (And.intro H2 (And.intro hb2 hz2))
  have HF := Lib.hid hf
  clear h c1 H2 hb2 hz2 hf
  have hall := mcs_one (s := 0) (c := 0) (v := .slice none 0 0) (h := zs 32) rfl
  generalize hw2 : (w.alloc (.cells #[.int .i64 ep] 2)).alloc (.cells zm 28) = w2 at *
  rcases La.idx_cases (La.whose 1 ep) (FS R) with ⟨hi, hno⟩ | ⟨j, hj, hi, hyes, hno⟩
  · have HV : Hid (La.mani (FS R) ep = none) := Lib.hid (mani_none hno)
    rw [hi] at HC
    clear hi hno
    go_enter Try.func17, Try.ntmps17
    have HW2 := Lib.hid hw2
    clear hw2
    go_upto_region 1 with fail
    rw [zeroM, show (mcs 0 0 (Value.slice none 0 0) (zs 32)).toArray = zm from rfl, HW2.out]
    go_wp2_with fail
    refine HC.out.mono ?_
    rintro e w3 ⟨rfl, hb3⟩
    have H3 : Hid (Whole w3 (w.heap.size + 1) 28 zm ∧ Below w.heap.size w w3) := Lib.hid ⟨H.out.2.2.below hb3 H.out.2.2.lt, H.out.2.1.trans (hb3.mono H.out.2.1.size)⟩
    clear hb3 HC H HW2
    go_wp2_with (first
      | ((with_reducible show wpList _ _ _ ((⟨_, Op.build 28 _, _, _, _, _⟩ : Oper) :: _) _ _); refine wpList_built rfl _ rfl _ rfl _ built_nil ?_)
      | ((with_reducible show wpList _ _ _ ((⟨_, Op.store 28 _ _, _, _, _, _⟩ : Oper) :: _) _ _); refine wpList_store_row rfl _ (.tmp 4) (.tmp 13) rfl (w.heap.size + 1) zm rfl rfl 28 _ H3.out.1 (by rw [zm_size]; exact info35) rfl hall ?_)
      | fail)
    refine bodyPost_ret (results_cell_one rfl _ _ _ _ rfl (loadVar35 (H3.out.1.row zm) zm_size)) rfl ?_
    refine ⟨⟨_, by rw [HV.out]; rfl, ?_⟩, below_row H3.out.2 (by omega) _⟩
    rw [HV.out]
    exact zm_mv _ _
  · have hjn : j < n := by rw [FS_len, HLN.out] at hj; exact hj
    have HV := Lib.hid (mani_at hj hno hyes)
    rw [hi] at HC
    have hneg : ¬ ((j : Int) < 0) := by omega
    clear hi hno hj hyes
    have HW2 := Lib.hid hw2
    clear hw2
    go_enter Try.func17, Try.ntmps17
    go_upto_region 1 with fail
    rw [zeroM, show (mcs 0 0 (Value.slice none 0 0) (zs 32)).toArray = zm from rfl, HW2.out]
    go_wp2_with fail
    refine HC.out.mono ?_
    rintro e w3 ⟨rfl, hb3⟩
    have H3 : Hid (Whole w3 (w.heap.size + 1) 28 zm ∧ Below w.heap.size w w3 ∧ Fts w3 (fun b => b < w.heap.size) (fun b => b < w.heap.size) a n R ∧ w.heap.size + 1 < w3.heap.size) := Lib.hid ⟨H.out.2.2.below hb3 H.out.2.2.lt, H.out.2.1.trans (hb3.mono H.out.2.1.size), H.out.1.below (hb3.mono H.out.2.1.size) (fun _ _ h => h) (fun _ _ h => h), Nat.lt_of_lt_of_le H.out.2.2.lt hb3.size⟩
    clear hb3 HC H HW2
    obtain ⟨b, off, rfl, _, hbl, hrg, hrw⟩ := H3.out.2.2.1.at_ hjn
    obtain ⟨y, hy⟩ : ∃ y, R.getD j d0 = y := ⟨_, rfl⟩
    rw [hy] at hrg hrw
    have hfy : y.1.man.ds.length ≤ 1000 := HF.out y (by
      rw [← hy]
      have : j < R.length := by rw [HLN.out]; exact hjn
      simp [this])
    rw [FS_get, hy] at HV
    have hrm := range_man hrg
    obtain ⟨da, dn, dc, hM, hdc, hds, hwh, h1, h2⟩ := hrw.1
    injection hM with hM
    have hM' : y.2 = mcs y.1.man.size y.1.man.chunk (.slice da dn dc) y.1.man.wh := by
      have := congrArg Array.toList hM
      simpa using this
    rw [hM'] at hrm
    clear hM hM' hy hrg hrw
    obtain ⟨m, hm⟩ : ∃ m, y.1.man = m := ⟨_, rfl⟩
    rw [hm] at hfy hrm hds hwh h1 h2 HV
    clear hm
    have hdn : dn ≤ 1000 := by rw [← hds.1]; exact hfy
    have HM := Lib.hid (And.intro hds (And.intro hwh (And.intro h1 h2)))
    have hms := msize (s := m.size) (c := m.chunk) (v := .slice da dn dc) hwh.1
    have hmo := mcs_one (s := m.size) (c := m.chunk) (v := .slice da dn dc) (h := m.wh) rfl
    have c2 : (mcs m.size m.chunk (.slice da dn dc) m.wh).toArray[2]? = some (.slice da dn dc) := rfl
    obtain ⟨M, hMe⟩ : ∃ M, mcs m.size m.chunk (.slice da dn dc) m.wh = M := ⟨_, rfl⟩
    have HME := Lib.hid hMe
    rw [hMe] at hrm hms hmo c2
    clear hMe hds hwh h1 h2 hfy
    have HMS := Lib.hid (And.intro hms hmo)
    have hiM : (Try.prog.info? 28).map (·.size) = some M.length := by rw [show M.length = 35 by simpa using hms]; exact info35
    have HRM := Lib.hid hrm
    clear hms hmo hrm
    go_upto_region 5 with (first
      | ((with_reducible show wpList _ _ _ ((⟨_, Op.load 28 (.tmp 17), _, _, _, _⟩ : Oper) :: _) _ _); refine wpList_load_midG (by rfl) _ (.tmp 17) rfl b (off + j * 38 + 3) rfl M _ HRM.out Try.underlying28 rfl hiM ?_)
      | ((with_reducible show wpList _ _ _ ((⟨_, Op.store 28 (.tmp 7) _, _, _, _, _⟩ : Oper) :: _) _ _); rw [zeroM]; refine wpList_store_row rfl _ (.tmp 7) (.tmp 18) rfl w3.heap.size M.toArray rfl rfl 28 _ (Whole.new w3 _ _) (by rw [HMS.out.1]; exact info35) (by rw [HMS.out.1]; rfl) HMS.out.2 ?_)
      | fail)
    have kw4 : Whole ((w3.alloc (.cells (mcs 0 0 (.slice none 0 0) (zs 32)).toArray 28)).setRow w3.heap.size M.toArray) w3.heap.size 28 M.toArray := (Whole.new w3 28 (mcs 0 0 (.slice none 0 0) (zs 32)).toArray).row M.toArray
    have hb4 : Below w3.heap.size w3 ((w3.alloc (.cells (mcs 0 0 (.slice none 0 0) (zs 32)).toArray 28)).setRow w3.heap.size M.toArray) := below_row (below_alloc w3 _) (Nat.le_refl _) _
    generalize (w3.alloc (.cells (mcs 0 0 (.slice none 0 0) (zs 32)).toArray 28)).setRow w3.heap.size M.toArray = w4 at *
    have H4 : Hid (Whole w4 (w.heap.size + 1) 28 zm ∧ Below w.heap.size w w4 ∧ Whole w4 w3.heap.size 28 M.toArray ∧ Digs w4 (fun b => b < w.heap.size) da dn m.ds) := Lib.hid ⟨H3.out.1.below hb4 H3.out.1.lt, H3.out.2.1.trans (hb4.mono H3.out.2.1.size), kw4, HM.out.1.keep hb4.size (fun b hlt _ => hb4.block b hlt)⟩
    have HG : Hid (w.heap.size + 1 < w3.heap.size ∧ w3.heap.size < w4.heap.size) := Lib.hid ⟨H3.out.2.2.2, kw4.lt⟩
    have HM4 := Lib.hid HM.out.2
    have k2 : w4.cell? ⟨w3.heap.size, 2, none⟩ = some (.slice da dn dc) := (kw4.cell 2).trans c2
    clear kw4 hb4 H3 HRM HM c2
    generalize w3.heap.size = G at *
    go_wp2_with fail
    refine (cloneD_any H4.out.2.2.2 (by omega)).mono ?_
    rintro e w5 ⟨a', c', rfl, hc', hd', hb5⟩
    have H5 : Hid (Whole w5 (w.heap.size + 1) 28 zm ∧ Below w.heap.size w w5 ∧ Whole w5 G 28 M.toArray ∧ Digs w5 (w4.heap.size ≤ ·) a' dn m.ds ∧ dn ≤ c') := Lib.hid ⟨H4.out.1.below hb5 H4.out.1.lt, H4.out.2.1.trans (hb5.mono H4.out.2.1.size), H4.out.2.2.1.below hb5 H4.out.2.2.1.lt, hd', hc'⟩
    have k5 : w5.cell? ⟨G, 2, none⟩ = some (.slice da dn dc) := (hb5.cell (p := ⟨G, 2, none⟩) HG.out.2).trans k2
    have f5 : w5.frozen? ⟨G, 2, none⟩ = false := H5.out.2.2.1.frozen 2
    clear hc' hd' hb5 k2 H4
    go_upto_region 6 with fail
    have hsz : (w5.setCell ⟨G, 2, none⟩ (.slice a' dn c')).heap.size = w5.heap.size := by simp [World.setCell]
    have kw6 := H5.out.2.2.1.set 2 (.slice a' dn c')
    have hz6 := H5.out.1.far (p := ⟨G, 2, none⟩) (by show w.heap.size + 1 ≠ G; have := HG.out; omega) (.slice a' dn c')
    have hb6 := H5.out.2.1.setCell (p := ⟨G, 2, none⟩) (by show w.heap.size ≤ G; have := HG.out; omega) (.slice a' dn c')
    have hd6 : Digs (w5.setCell ⟨G, 2, none⟩ (.slice a' dn c')) (w4.heap.size ≤ ·) a' dn m.ds := H5.out.2.2.2.1.keep (by rw [hsz]; exact Nat.le_refl _) (fun b' _ hb' => heap_setCell_other _ _ _ _ (by show b' ≠ G; have := HG.out; omega))
    have hME : M.toArray.setIfInBounds 2 (.slice a' dn c') = (mcs m.size m.chunk (.slice a' dn c') m.wh).toArray := by rw [← HME.out]; rfl
    rw [hME] at kw6
    have hms' := msize (s := m.size) (c := m.chunk) (v := .slice a' dn c') HM4.out.1.1
    have hmo' := mcs_one (s := m.size) (c := m.chunk) (v := .slice a' dn c') (h := m.wh) rfl
    obtain ⟨M', hM'⟩ : ∃ M', (mcs m.size m.chunk (.slice a' dn c') m.wh).toArray = M' := ⟨_, rfl⟩
    rw [hM'] at kw6 hms' hmo'
    have H6 := Lib.hid (And.intro kw6 (And.intro hz6 (And.intro hb6 (And.intro hd6 (And.intro hms' (And.intro hmo' hM'))))))
    clear kw6 hz6 hb6 hd6 hME hM' hms' hmo' k5 f5 hsz
    generalize w5.setCell ⟨G, 2, none⟩ (.slice a' dn c') = w6 at *
    go_wp2_with (first
      | ((with_reducible show wpList _ _ _ ((⟨_, Op.load 28 (.tmp 7), _, _, _, _⟩ : Oper) :: _) _ _); refine wpList_load_row rfl _ (.tmp 7) rfl G rfl 28 M' (0, 0) _ H6.out.1 Try.underlying28 rfl (by rw [H6.out.2.2.2.2.1]; exact info35) ?_)
      | ((with_reducible show wpList _ _ _ ((⟨_, Op.store 28 (.tmp 4) _, _, _, _, _⟩ : Oper) :: _) _ _); refine wpList_store_row rfl _ (.tmp 4) (.tmp 23) rfl (w.heap.size + 1) M' rfl rfl 28 _ H6.out.2.1 (by rw [H6.out.2.2.2.2.1]; exact info35) (by rw [H6.out.2.2.2.2.1]; rfl) H6.out.2.2.2.2.2.1 ?_)
      | fail)
    refine bodyPost_ret (results_cell_one rfl _ _ _ _ rfl (loadVar35 (H6.out.2.1.row M') H6.out.2.2.2.2.1)) rfl ?_
    refine ⟨⟨_, by rw [HV.out]; rfl, ?_⟩, below_row H6.out.2.2.1 (by omega) _⟩
    rw [HV.out]
    show Mv _ _ _ m
    refine ⟨a', dn, c', by rw [H6.out.2.2.2.2.2.2], H5.out.2.2.2.2, ?_, HM4.out.1, HM4.out.2.1, HM4.out.2.2⟩
    have hd7 : Digs (w6.setRow (w.heap.size + 1) M') (w4.heap.size ≤ ·) a' dn m.ds := H6.out.2.2.2.1.keep (by simp [World.setRow]) (fun b' _ hb' => setRow_other _ _ _ _ (by have := HG.out; omega))
    exact hd7.weak (fun b' _ hb' => by have := HG.out; omega)
end Go.Proofs.Ytdfmfjahnnifnaa
