/-
  The walk of slices.Insert of one fact, into a row that the caller gave away.
-/
import Derived.Test.YtdfmfjahnnifnaaAi
namespace Go.Proofs.Ytdfmfjahnnifnaa
set_option maxRecDepth 20000
set_option linter.unusedSimpArgs false
set_option linter.unusedVariables false
open Go.RowKit Go.Great Go.Shelf
/-- A row is answered. -/
def InQ (w : World) (B m : Nat) (R' : List Fm) (e : Ending) (w' : World) : Prop := ∃ a' c', e = .returned (.slice a' m c') ∧ Lay w' B a' m c' R' ∧ Below B w w'
theorem insert_end {w : World} {B : Nat} {a : Option Addr} {n c vb : Nat} {R : List Fm} {x : Fm} (h : Lay w B a n c R) (hB : B ≤ w.heap.size) (hn : n ≤ 10000) (hx : Rw w (fun b => b < B) x) (hv : Whole w vb 30 (fc x).toArray) :
    Calls Try.prog 61 #[.slice a n c, .int .i64 (n : Int), .slice (some ⟨vb, 0, none⟩) 1 1] w (InQ w B (n + 1) (R ++ [x])) := by
  have hs0 := slice_loF (a := a) (n := n) (c := c) (k := n) (Nat.le_refl _)
  obtain ⟨a9, ha9⟩ : ∃ a9 : Option Addr, (if c = n then a else a.map (fun p => p.add (n * 38))) = a9 := ⟨_, rfl⟩
  rw [ha9] at hs0
  obtain ⟨n9, hn9⟩ : ∃ k : Nat, n - n = k := ⟨_, rfl⟩
  obtain ⟨c9, hc9⟩ : ∃ k : Nat, c - n = k := ⟨_, rfl⟩
  rw [hn9, hc9] at hs0
  have HL := Lib.hid h
  have HQ : Hid (Fts w (fun _ => True) (fun b => b < B) (some ⟨vb, 0, none⟩) 1 [x]) := Lib.hid (fts_one hv trivial hx)
  have HX := Lib.hid hx
  have q1 : ((n : Int) == (n : Int)) = true := by simp
  clear h hx hv ha9 hn9 hc9
  go_enter Try.func61, Try.ntmps61
  go_wp2_with (first
    | (at_builtin; refine wpList_append_facts factsU _ (by rfl) (.tmp 23) (.tmp 24) rfl B (.slice a n c) n (flatF R) rfl HL.out.own (fun _ => True) (fun b => b < B) (some ⟨vb, 0, none⟩) 1 1 [x] rfl HQ.out (by omega) (by omega) hB ?_)
    | fail)
  intro v5 w5 hown hg _
  have hb5 : Below B w w5 := (Below.refl B w).grown hg hB (own_ge HL.out.own)
  obtain ⟨a5, c5, rfl, hl5⟩ := HL.out.add HX.out hown hg
  have HJ5 := Lib.hid (And.intro hl5 hb5)
  clear hown hg hl5 hb5
  go_wp2
  go_ret
  exact ⟨a5, c5, rfl, HJ5.out.1, HJ5.out.2⟩
/-- What is known of a row of facts: its block. -/
theorem lay_cur {w : World} {B g n c : Nat} {R : List Fm} (h : Lay w B (some ⟨g, 0, none⟩) n c R) : ∃ cur : List Value, Whole w g 30 cur.toArray ∧ cur.length = c * 38 ∧ cur.take (n * 38) = flatF R ∧ B ≤ g ∧ n ≤ c ∧ c ≤ maxLen := by
  rcases h.own.2 with ⟨h', _⟩ | ⟨g', cap', cur, hv, hb, hh, hnc, hcm, hsz, htk⟩
  · simp at h'
  · injection hv with e1 e2 e3
    injection e1 with e1
    injection e1 with e1
    subst e1 e3
    exact ⟨cur.toList, by rw [Array.toArray_toList]; exact hh, by simpa using hsz, htk, hb, hnc, hcm⟩
/-- A row that is laid anew. -/
theorem lay_new {w : World} {B g m c : Nat} {R : List Fm} {cur : List Value} (hw : Whole w g 30 cur.toArray) (hl : cur.length = c * 38) (ht : cur.take (m * 38) = flatF R) (hB : B ≤ g) (hm : m ≤ c) (hc : c ≤ maxLen) (hr : ∀ x ∈ R, Rw w (fun b => b < B) x) (hR : R.length = m) : Lay w B (some ⟨g, 0, none⟩) m c R :=
  ⟨⟨by rw [flatF_len hr, hR, Nat.mul_comm], Or.inr ⟨g, c, cur.toArray, rfl, hB, hw, hm, hc, by simpa using hl, by simpa using ht⟩⟩, hr, hR⟩
set_option maxHeartbeats 8000000 in
theorem insert_mid {w : World} {B g : Nat} {n c vb i : Nat} {R : List Fm} {x : Fm} (h : Lay w B (some ⟨g, 0, none⟩) n c R) (hB : B ≤ w.heap.size) (hn : n ≤ 10000) (hx : Rw w (fun b => b < B) x) (hv : Whole w vb 30 (fc x).toArray) (hvg : vb ≠ g) (hi : i < n) :
    Calls Try.prog 61 #[.slice (some ⟨g, 0, none⟩) n c, .int .i64 (i : Int), .slice (some ⟨vb, 0, none⟩) 1 1] w (InQ w B (n + 1) (R.take i ++ x :: R.drop i)) := by
  obtain ⟨cur, hw, hl, htk, hBg, hnc, hcm⟩ := lay_cur h
  have hfd : Fts w (B ≤ ·) (fun b => b < B) (some ⟨g, i * 38, none⟩) (n - i) (R.drop i) := by
    have := h.get.2.drop i c (by omega) hnc
    rw [if_neg (by omega)] at this
    simpa [Addr.add_lit] using this
  have hdl : (flatF (R.drop i)).length = (n - i) * 38 := by rw [flatF_len hfd.2.1, hfd.1, Nat.mul_comm]
  have hpl : cur.take (i * 38) = flatF (R.take i) := by
    have h1 := flatF_append (R.take i) (R.drop i)
    rw [List.take_append_drop] at h1
    have h2 : (flatF (R.take i)).length = i * 38 := by
      rw [flatF_len (fun y hy => h.rows y (List.mem_of_mem_take hy)), List.length_take, h.len, Nat.min_eq_left (by omega), Nat.mul_comm]
    have h3 : (cur.take (n * 38)).take (i * 38) = flatF (R.take i) := by rw [htk, h1, ← h2, List.take_left]
    rw [← h3, List.take_take, Nat.min_eq_left (by omega)]
  have hxl := fc_len hx
  have hrows : ∀ y ∈ R.take i ++ x :: R.drop i, Rw w (fun b => b < B) y := by
    intro y hy
    rcases List.mem_append.1 hy with hy | hy
    · exact h.rows y (List.mem_of_mem_take hy)
    · rcases List.mem_cons.1 hy with rfl | hy
      · exact hx
      · exact h.rows y (List.mem_of_mem_drop hy)
  have hlen : (R.take i ++ x :: R.drop i).length = n + 1 := by
    have := h.len
    simp; omega
  have hs0 := slice_loF' (b := g) (off := 0) (n := n) (c := c) (k := i) hi hnc
  rw [Nat.zero_add] at hs0
  obtain ⟨m, hm⟩ : ∃ m, n + 1 = m := ⟨_, rfl⟩
  obtain ⟨i1, hi1⟩ : ∃ j, i + 1 = j := ⟨_, rfl⟩
  have hw1 : IntKind.i64.wrap ((n : Int) + 1) = (m : Int) := by rw [IntKind.wrap_i64]; omega
  have hw3 : IntKind.i64.wrap ((i : Int) + 1) = (i1 : Int) := by rw [IntKind.wrap_i64]; omega
  have q1 : ((i : Int) == (n : Int)) = false := by simp; omega
  have HR := Lib.hid (And.intro hrows (And.intro hlen (flatF_parts (R := R) (x := x) (i := i))))
  have HP := Lib.hid (And.intro hpl (And.intro hdl (And.intro hl hxl)))
  have HC := Lib.hid (And.intro (flatF_cells hfd) (And.intro (flatF_ones hfd.2.1) (fc_one hx)))
  have HW := Lib.hid (And.intro hw hv)
  have HM := Lib.hid (And.intro hm hi1)
  have HG := Lib.hid (And.intro hBg (And.intro hcm hvg))
  have HH := Lib.hid h.get.2
  clear hrows hlen hpl hdl hl hxl hfd hw hv hBg hcm htk hx hvg
  obtain ⟨X, hX⟩ : ∃ X, fc x = X := ⟨_, rfl⟩
  obtain ⟨Y, hY⟩ : ∃ Y, flatF (R.drop i) = Y := ⟨_, rfl⟩
  obtain ⟨P, hP⟩ : ∃ P, flatF (R.take i) = P := ⟨_, rfl⟩
  rw [hX, hY, hP] at HR
  rw [hX, hY, hP] at HP
  rw [hX, hY] at HC
  rw [hX] at HW
  clear hX hY hP
  by_cases hroom : m ≤ c
  · have q2 : ¬ ((m : Int) > (c : Int)) := by omega
    have hs1 := slice_hiF (a := some ⟨g, 0, none⟩) (n := n) (c := c) (k := m) hroom
    have hs2 := slice_loF' (b := g) (off := 0) (n := m) (c := c) (k := i1) (by omega) hroom
    have hs3 := slice_loF' (b := g) (off := 0) (n := m) (c := c) (k := i) (by omega) hroom
    rw [Nat.zero_add] at hs2 hs3
    have hov := fun lb cb => overlaps_no (w := w) (off := i1 * 38) (la := 1) (ca := 1) (lb := lb) (cb := cb) (kA := 0) (kB := 0) (voff := 0) HW.out.2 HW.out.1 HG.out.2.2 (by rw [List.size_toArray, HP.out.2.2.1]; omega) (by rw [List.size_toArray, HP.out.2.2.2]; omega)
    obtain ⟨e1, he1⟩ : ∃ k : Nat, m - i1 = k := ⟨_, rfl⟩
    obtain ⟨e2, he2⟩ : ∃ k : Nat, c - i1 = k := ⟨_, rfl⟩
    obtain ⟨e3, he3⟩ : ∃ k : Nat, m - i = k := ⟨_, rfl⟩
    obtain ⟨e4, he4⟩ : ∃ k : Nat, c - i = k := ⟨_, rfl⟩
    rw [he1, he2] at hs2
    rw [he3, he4] at hs3
    have HE := Lib.hid (And.intro he1 (And.intro he3 (And.intro hi (And.intro hm hi1))))
    have HRM := Lib.hid hroom
    clear he1 he2 he3 he4 hm hi1 hroom
    go_enter Try.func61, Try.ntmps61
    go_upto_region 15 with (simp only [hov])
    have HS3 := Lib.hid hs3
    refine wp_region_held_drew (S := fun _ => True) (by kernel_rfl) trivial (fun hHeld => ?_)
    refine wpAnyH_take (i := 0) (v := .slice (some ⟨g, 0, none⟩) m c) rfl (by kernel_rfl) (by kernel_rfl) (by kernel_rfl) (fun _ _ _ h => h) (Or.inl ⟨by rfl, (by intro w hSw; (try dsimp only at hSw); go_simp)⟩) (by assumption) ?_
    try simp only [Act.put, List.getElem_toArray, List.getElem_cons_zero, List.getElem_cons_succ, List.setIfInBounds_toArray, List.set_cons_zero, List.set_cons_succ]
    refine wpAnyH_take (i := 1) (v := .int .i64 (i : Int)) rfl (by kernel_rfl) (by kernel_rfl) (by kernel_rfl) (fun _ _ _ h => h) (Or.inl ⟨by rfl, (by intro w hSw; (try dsimp only at hSw); go_simp)⟩) (by assumption) ?_
    try simp only [Act.put, List.getElem_toArray, List.getElem_cons_zero, List.getElem_cons_succ, List.setIfInBounds_toArray, List.set_cons_zero, List.set_cons_succ]
    refine wpAnyH_take (i := 2) (v := .int .i64 1) rfl (by kernel_rfl) (by kernel_rfl) (by kernel_rfl) (fun _ _ _ h => h) (Or.inl ⟨by rfl, (by intro w hSw; (try dsimp only at hSw); go_simp)⟩) (by assumption) ?_
    try simp only [Act.put, List.getElem_toArray, List.getElem_cons_zero, List.getElem_cons_succ, List.setIfInBounds_toArray, List.set_cons_zero, List.set_cons_succ]
    refine wpAnyH_take (i := 3) (v := .int .i64 (i1 : Int)) rfl (by kernel_rfl) (by kernel_rfl) (by kernel_rfl) (fun _ _ _ h => h) (Or.inl ⟨by rfl, (by intro w hSw; (try dsimp only at hSw); go_simp)⟩) (by assumption) ?_
    try simp only [Act.put, List.getElem_toArray, List.getElem_cons_zero, List.getElem_cons_succ, List.setIfInBounds_toArray, List.set_cons_zero, List.set_cons_succ]
    refine wpAnyH_take (i := 4) (v := .slice (some ⟨g, i1 * 38, none⟩) e1 e2) rfl (by kernel_rfl) (by kernel_rfl) (by kernel_rfl) (fun _ _ _ h => h) (Or.inl ⟨by rfl, (by intro w hSw; (try dsimp only at hSw); go_simp)⟩) (by assumption) ?_
    try simp only [Act.put, List.getElem_toArray, List.getElem_cons_zero, List.getElem_cons_succ, List.setIfInBounds_toArray, List.set_cons_zero, List.set_cons_succ]
    refine wpAnyH_take (i := 5) (v := .slice (some ⟨g, 0, none⟩) m c) rfl (by kernel_rfl) (by kernel_rfl) (by kernel_rfl) (fun _ _ _ h => h) (Or.inl ⟨by rfl, (by intro w hSw; (try dsimp only at hSw); go_simp)⟩) (by assumption) ?_
    try simp only [Act.put, List.getElem_toArray, List.getElem_cons_zero, List.getElem_cons_succ, List.setIfInBounds_toArray, List.set_cons_zero, List.set_cons_succ]
    refine wpAnyH_take (i := 6) (v := .int .i64 (i : Int)) rfl (by kernel_rfl) (by kernel_rfl) (by kernel_rfl) (fun _ _ _ h => h) (Or.inl ⟨by rfl, (by intro w hSw; (try dsimp only at hSw); go_simp)⟩) (by assumption) ?_
    try simp only [Act.put, List.getElem_toArray, List.getElem_cons_zero, List.getElem_cons_succ, List.setIfInBounds_toArray, List.set_cons_zero, List.set_cons_succ]
    refine wpAnyH_take (i := 7) (v := .slice (some ⟨g, i * 38, none⟩) e3 e4) rfl (by kernel_rfl) (by kernel_rfl) (by kernel_rfl) (fun _ _ _ h => h) (Or.inl ⟨by rfl, (by intro w hSw; (try dsimp only at hSw); go_simp)⟩) (by assumption) ?_
    try simp only [Act.put, List.getElem_toArray, List.getElem_cons_zero, List.getElem_cons_succ, List.setIfInBounds_toArray, List.set_cons_zero, List.set_cons_succ]
    clear hs0 hs1 hs2 hs3 hov hw1 hw3
    refine wpAnyH_ready (rs := [8]) (by kernel_rfl) (by simp) (AllReadyH.cons rfl (fun K hK => ?_) AllReadyH.nil)
    try simp only [List.getElem_toArray, List.getElem_cons_zero, List.getElem_cons_succ]
    refine if_wanted (by rfl) ?_
    refine wp_copyF factsU w.drew (.tmp 73) (.tmp 76) rfl g (i1 * 38) e1 e2 ⟨g, i * 38, none⟩ e3 e4 rfl rfl cur 30 Y HW.out.1 (by rw [HP.out.2.1]; have h := HE.out; show (n - i) * 38 = min e3 e1 * 38; congr 1; omega) HC.out.1 (by have h1 := HP.out.2.1; have h2 := HP.out.2.2.1; have h3 := HE.out; have h4 := HRM.out; omega) HC.out.2.1 ?_
    intro w5 hw5 hb5 ho5
    have H5 : Hid (Whole w5 g 30 (splice cur (i1 * 38) Y).toArray ∧ Below B w w5 ∧ Whole w5 vb 30 X.toArray ∧ B ≤ w5.heap.size) := Lib.hid ⟨hw5, ((Below.refl B w).drew).trans (hb5.mono HG.out.1), HW.out.2.keep (ho5 vb HG.out.2.2), Nat.le_trans hB hb5.size⟩
    clear hw5 hb5 ho5
    refine hK.out _ _ trivial (fun hHeld => ?_)
    clear hK K
    try simp only [Act.put, List.getElem_toArray, List.getElem_cons_zero, List.getElem_cons_succ, List.setIfInBounds_toArray, List.set_cons_zero, List.set_cons_succ]
    refine wpAnyH_done (by kernel_rfl) ?_ _
    have hs3 := HS3.out
    have t1 : X.length = Nat.min 1 e3 * 38 := by
      have h1 := HP.out.2.2.2
      have h := HE.out
      rw [h1, show Nat.min 1 e3 = 1 from Nat.min_eq_left (by omega)]
    have t2 : ∀ j v, X[j]? = some v → w5.cell? ((⟨vb, 0, none⟩ : Addr).add j) = some v := fun j v hv => by rw [Addr.add_lit, Nat.zero_add, H5.out.2.2.1.cell, List.getElem?_toArray]; exact hv
    have t3 : i * 38 + X.length ≤ (splice cur (i1 * 38) Y).length := by
      have h1 := HP.out.2.1
      have h2 := HP.out.2.2.1
      have h3 := HE.out
      have h4 := HRM.out
      have h5 := HP.out.2.2.2
      rw [length_splice _ _ _ (by omega)]
      omega
    have HT := Lib.hid (And.intro t1 (And.intro t2 t3))
    clear t1 t2 t3
    go_wp2_with (first
      | ((with_reducible show wpList _ _ _ ((⟨some 82, _, _, _, _, _⟩ : Oper) :: _) _ _); refine wpList_copyF factsU _ (by rfl) (.tmp 80) (.tmp 81) rfl g (i * 38) e3 e4 ⟨vb, 0, none⟩ 1 1 rfl rfl (splice cur (i1 * 38) Y) 30 X H5.out.1 HT.out.1 HT.out.2.1 HT.out.2.2 HC.out.2.2 ?_)
      | fail)
    intro w6 hw6 hb6 ho6
    have hb6' : Below B w w6 := H5.out.2.1.trans (hb6.mono HG.out.1)
    have hll := HP.out.2.2.1
    have hy := HP.out.2.1
    have hx := HP.out.2.2.2
    have hE := HE.out
    have hR := HRM.out
    have htake : (splice (splice cur (i1 * 38) Y) (i * 38) X).take (m * 38) = flatF (R.take i ++ x :: R.drop i) := by
      rw [HR.out.2.2, show i1 * 38 = i * 38 + X.length by omega, show m * 38 = i * 38 + X.length + Y.length by omega]
      exact splice_back HP.out.1 (by omega) (by omega)
    have hlay : Lay w6 B (some ⟨g, 0, none⟩) m c (R.take i ++ x :: R.drop i) := lay_new hw6 (by rw [length_splice _ _ _ (by rw [length_splice _ _ _ (by omega)]; omega), length_splice _ _ _ (by omega)]; exact hll) htake HG.out.1 hR HG.out.2.1 (fun y hy => (HR.out.1 y hy).below hb6' (fun _ _ h => h)) (by rw [HR.out.2.1]; omega)
    have HJ := Lib.hid (And.intro hlay hb6')
    have HM1 := Lib.hid hE.2.2.2.1
    clear hlay hb6' hll hy hx hE hR htake hw6 hb6 ho6
    go_wp2
    go_ret
    rw [HM1.out]
    exact ⟨some ⟨g, 0, none⟩, c, rfl, HJ.out.1, HJ.out.2⟩
  · have hcn : c = n := by omega
    subst hcn
    have q2 : (m : Int) > (c : Int) := by omega
    obtain ⟨k, hk⟩ : ∃ k, m - i = k := ⟨_, rfl⟩
    have hs1 := slice_hiF (a := some ⟨g, 0, none⟩) (n := c) (c := c) (k := i) (by omega)
    have hw2 : IntKind.i64.wrap ((m : Int) - (i : Int)) = (k : Int) := by rw [IntKind.wrap_i64]; omega
    obtain ⟨e1, he1⟩ : ∃ e : Nat, c - i = e := ⟨_, rfl⟩
    rw [he1] at hs0
    have hp : P.length = i * 38 := by
      have h1 := HP.out.1
      have h2 := HP.out.2.2.1
      rw [← h1, List.length_take]
      omega
    have HE := Lib.hid (And.intro hk (And.intro hi (And.intro hm (And.intro hi1 (And.intro he1 hp)))))
    have HS0 := Lib.hid hs0
    have HFT := Lib.hid (HH.out.take i (by omega))
    have HPE : Hid (flatF (R.take i) = P) := Lib.hid (by
      have h1 := HR.out.2.2
      rw [flatF_parts] at h1
      have h2 : (flatF (R.take i)).length = P.length := by rw [flatF_len HFT.out.2.1, HFT.out.1, hp, Nat.mul_comm]
      rw [List.append_assoc, List.append_assoc] at h1
      exact (List.append_inj h1 h2).1)
    clear hm hi1 he1 hk hp hroom
    go_enter Try.func61, Try.ntmps61
    go_wp2_with (first
      | ((with_reducible show wpList _ _ _ ((⟨some 40, _, _, _, _, _⟩ : Oper) :: _) _ _); refine wpList_append_zerosF factsU Try.underlying3 _ (by rfl) (.tmp 34) (.tmp 39) rfl ⟨g, 0, none⟩ i c k m rfl rfl (B ≤ ·) (fun b => b < B) (R.take i) HFT.out (by have := HE.out; omega) (by have := HE.out; omega) (by have := HE.out; omega) (by have := HE.out; omega) ?_)
      | fail)
    intro cap C w1 hmc hcm1 hC1 hC2 hw1' hb1
    have hs4 := slice_loF' (b := w.heap.size) (off := 0) (n := m) (c := cap) (k := i) (by have := HE.out; omega) hmc
    have hs5 := slice_loF' (b := w.heap.size) (off := 0) (n := m) (c := cap) (k := i1) (by have := HE.out; omega) hmc
    rw [Nat.zero_add] at hs4 hs5
    rw [HE.out.1] at hs4
    obtain ⟨e4, he4⟩ : ∃ e : Nat, cap - i = e := ⟨_, rfl⟩
    obtain ⟨e5, he5⟩ : ∃ e : Nat, m - i1 = e := ⟨_, rfl⟩
    obtain ⟨e6, he6⟩ : ∃ e : Nat, cap - i1 = e := ⟨_, rfl⟩
    rw [he4] at hs4
    rw [he5, he6] at hs5
    rw [HPE.out] at hC2
    have H1 : Hid (Whole w1 w.heap.size 30 C.toArray ∧ Below w.heap.size w w1 ∧ Whole w1 vb 30 X.toArray ∧ C.length = cap * 38 ∧ C.take (i * 38) = P ∧ m - i1 = e5 ∧ m ≤ cap ∧ cap ≤ maxLen) := Lib.hid ⟨hw1', hb1, HW.out.2.below hb1 HW.out.2.lt, hC1, hC2, he5, hmc, hcm1⟩
    have HGL : Hid (g < w.heap.size ∧ vb < w.heap.size) := Lib.hid ⟨HW.out.1.lt, HW.out.2.lt⟩
    clear hmc hcm1 hC1 hC2 hw1' hb1 he4 he5 he6 hs1 hs0
    generalize hGe : w.heap.size = G at *
    have HGE := Lib.hid hGe
    clear hGe
    have t1 : X.length = Nat.min 1 k * 38 := by
      have h1 := HP.out.2.2.2
      have h := HE.out
      rw [h1, show Nat.min 1 k = 1 from Nat.min_eq_left (by omega)]
    have t2 : ∀ j v, X[j]? = some v → w1.cell? ((⟨vb, 0, none⟩ : Addr).add j) = some v := fun j v hv => by rw [Addr.add_lit, Nat.zero_add, H1.out.2.2.1.cell, List.getElem?_toArray]; exact hv
    have t3 : i * 38 + X.length ≤ C.length := by
      have h1 := HP.out.2.2.2
      have h3 := HE.out
      have h4 := H1.out.2.2.2
      omega
    have HT := Lib.hid (And.intro t1 (And.intro t2 t3))
    clear t1 t2 t3
    go_upto_region 11 with (first
      | ((with_reducible show wpList _ _ _ ((⟨some 45, _, _, _, _, _⟩ : Oper) :: _) _ _); refine wpList_copyF factsU _ (by rfl) (.tmp 43) (.tmp 44) rfl G (i * 38) k e4 ⟨vb, 0, none⟩ 1 1 rfl rfl C 30 X H1.out.1 HT.out.1 HT.out.2.1 HT.out.2.2 HC.out.2.2 ?_; intro w2 hw2' hb2 ho2)
      | fail)
    have H2 : Hid (Whole w2 G 30 (splice C (i * 38) X).toArray ∧ Below G w w2) := Lib.hid ⟨hw2', H1.out.2.1.trans hb2⟩
    clear hw2' hb2 ho2
    have hs0 := HS0.out
    refine wp_region_held_drew (S := fun _ => True) (by kernel_rfl) trivial (fun hHeld => ?_)
    refine wpAnyH_take (i := 0) (v := .slice (some ⟨G, 0, none⟩) m cap) rfl (by kernel_rfl) (by kernel_rfl) (by kernel_rfl) (fun _ _ _ h => h) (Or.inl ⟨by rfl, (by intro w hSw; (try dsimp only at hSw); go_simp)⟩) (by assumption) ?_
    try simp only [Act.put, List.getElem_toArray, List.getElem_cons_zero, List.getElem_cons_succ, List.setIfInBounds_toArray, List.set_cons_zero, List.set_cons_succ]
    refine wpAnyH_take (i := 1) (v := .int .i64 (i : Int)) rfl (by kernel_rfl) (by kernel_rfl) (by kernel_rfl) (fun _ _ _ h => h) (Or.inl ⟨by rfl, (by intro w hSw; (try dsimp only at hSw); go_simp)⟩) (by assumption) ?_
    try simp only [Act.put, List.getElem_toArray, List.getElem_cons_zero, List.getElem_cons_succ, List.setIfInBounds_toArray, List.set_cons_zero, List.set_cons_succ]
    refine wpAnyH_take (i := 2) (v := .int .i64 1) rfl (by kernel_rfl) (by kernel_rfl) (by kernel_rfl) (fun _ _ _ h => h) (Or.inl ⟨by rfl, (by intro w hSw; (try dsimp only at hSw); go_simp)⟩) (by assumption) ?_
    try simp only [Act.put, List.getElem_toArray, List.getElem_cons_zero, List.getElem_cons_succ, List.setIfInBounds_toArray, List.set_cons_zero, List.set_cons_succ]
    refine wpAnyH_take (i := 3) (v := .int .i64 (i1 : Int)) rfl (by kernel_rfl) (by kernel_rfl) (by kernel_rfl) (fun _ _ _ h => h) (Or.inl ⟨by rfl, (by intro w hSw; (try dsimp only at hSw); go_simp)⟩) (by assumption) ?_
    try simp only [Act.put, List.getElem_toArray, List.getElem_cons_zero, List.getElem_cons_succ, List.setIfInBounds_toArray, List.set_cons_zero, List.set_cons_succ]
    refine wpAnyH_take (i := 4) (v := .slice (some ⟨G, i1 * 38, none⟩) e5 e6) rfl (by kernel_rfl) (by kernel_rfl) (by kernel_rfl) (fun _ _ _ h => h) (Or.inl ⟨by rfl, (by intro w hSw; (try dsimp only at hSw); go_simp)⟩) (by assumption) ?_
    try simp only [Act.put, List.getElem_toArray, List.getElem_cons_zero, List.getElem_cons_succ, List.setIfInBounds_toArray, List.set_cons_zero, List.set_cons_succ]
    refine wpAnyH_take (i := 5) (v := .slice (some ⟨g, 0, none⟩) c c) rfl (by kernel_rfl) (by kernel_rfl) (by kernel_rfl) (fun _ _ _ h => h) (Or.inl ⟨by rfl, (by intro w hSw; (try dsimp only at hSw); go_simp)⟩) (by assumption) ?_
    try simp only [Act.put, List.getElem_toArray, List.getElem_cons_zero, List.getElem_cons_succ, List.setIfInBounds_toArray, List.set_cons_zero, List.set_cons_succ]
    refine wpAnyH_take (i := 6) (v := .int .i64 (i : Int)) rfl (by kernel_rfl) (by kernel_rfl) (by kernel_rfl) (fun _ _ _ h => h) (Or.inl ⟨by rfl, (by intro w hSw; (try dsimp only at hSw); go_simp)⟩) (by assumption) ?_
    try simp only [Act.put, List.getElem_toArray, List.getElem_cons_zero, List.getElem_cons_succ, List.setIfInBounds_toArray, List.set_cons_zero, List.set_cons_succ]
    refine wpAnyH_take (i := 7) (v := .slice (some ⟨g, i * 38, none⟩) e1 e1) rfl (by kernel_rfl) (by kernel_rfl) (by kernel_rfl) (fun _ _ _ h => h) (Or.inl ⟨by rfl, (by intro w hSw; (try dsimp only at hSw); go_simp)⟩) (by assumption) ?_
    try simp only [Act.put, List.getElem_toArray, List.getElem_cons_zero, List.getElem_cons_succ, List.setIfInBounds_toArray, List.set_cons_zero, List.set_cons_succ]
    have t1 : Y.length = Nat.min e1 e5 * 38 := by
      have h1 := HP.out.2.1
      have h := HE.out
      have h2 := H1.out.2.2.2
      rw [h1, show Nat.min e1 e5 = e1 from Nat.min_eq_left (by omega), h.2.2.2.2.1]
    have t2 : ∀ j v, Y[j]? = some v → w2.drew.cell? ((⟨g, i * 38, none⟩ : Addr).add j) = some v := fun j v hv => by
      have h1 := HC.out.1 j v hv
      rw [Addr.add_lit] at h1 ⊢
      exact (H2.out.2.cell (p := ⟨g, i * 38 + j, none⟩) HGL.out.1).trans h1
    have t3 : i1 * 38 + Y.length ≤ (splice C (i * 38) X).length := by
      have h1 := HP.out.2.1
      have h3 := HE.out
      have h4 := H1.out.2.2.2
      have h5 := HP.out.2.2.2
      rw [length_splice _ _ _ (by omega)]
      omega
    have HT2 := Lib.hid (And.intro t1 (And.intro t2 t3))
    clear t1 t2 t3 hs0 hs4 hs5 hw1 hw2 hw3
    refine wpAnyH_ready (rs := [8]) (by kernel_rfl) (by simp) (AllReadyH.cons rfl (fun K hK => ?_) AllReadyH.nil)
    try simp only [List.getElem_toArray, List.getElem_cons_zero, List.getElem_cons_succ]
    refine if_wanted (by rfl) ?_
    refine wp_copyF factsU w2.drew (.tmp 50) (.tmp 53) rfl G (i1 * 38) e5 e6 ⟨g, i * 38, none⟩ e1 e1 rfl rfl (splice C (i * 38) X) 30 Y H2.out.1 HT2.out.1 HT2.out.2.1 HT2.out.2.2 HC.out.2.1 ?_
    intro w3 hw3' hb3 ho3
    have hb3' : Below G w w3 := (H2.out.2.drew).trans hb3
    have hbB : Below B w w3 := hb3'.mono hB
    have hll := H1.out.2.2.2
    have hy := HP.out.2.1
    have hx := HP.out.2.2.2
    have hE := HE.out
    have htake : (splice (splice C (i * 38) X) (i1 * 38) Y).take (m * 38) = flatF (R.take i ++ x :: R.drop i) := by
      rw [HR.out.2.2, show i1 * 38 = i * 38 + X.length by omega, show m * 38 = i * 38 + X.length + Y.length by omega]
      exact splice_two hll.2.1 (by omega) (by omega)
    have hlay : Lay w3 B (some ⟨G, 0, none⟩) m cap (R.take i ++ x :: R.drop i) := lay_new hw3' (by rw [length_splice _ _ _ (by rw [length_splice _ _ _ (by omega)]; omega), length_splice _ _ _ (by omega)]; exact hll.1) htake hB hll.2.2.2.1 hll.2.2.2.2 (fun y hy => (HR.out.1 y hy).below hbB (fun _ _ h => h)) (by rw [HR.out.2.1]; omega)
    have HJ := Lib.hid (And.intro hlay hbB)
    have HM1 := Lib.hid hE.2.2.1
    clear hlay hbB hb3' hll hy hx hE htake hw3' hb3 ho3
    refine hK.out _ _ trivial (fun hHeld => ?_)
    clear hK K
    try simp only [Act.put, List.getElem_toArray, List.getElem_cons_zero, List.getElem_cons_succ, List.setIfInBounds_toArray, List.set_cons_zero, List.set_cons_succ]
    refine wpAnyH_done (by kernel_rfl) ?_ _
    go_wp2
    go_ret
    rw [HM1.out]
    exact ⟨some ⟨G, 0, none⟩, cap, rfl, HJ.out.1, HJ.out.2⟩
end Go.Proofs.Ytdfmfjahnnifnaa
