/-
  The walks of joined and of All: what the package's functions answer (mem).
-/
import Derived.Test.YtlcpiompmpccoaaCq
namespace Go.Proofs.Ytlcpiompmpccoaa
open Go.RowKit Go.Great
set_option linter.unusedVariables false
set_option linter.unusedSimpArgs false
set_option maxRecDepth 20000
open Mb
theorem flatM_set {z : M} : ∀ {P : List M} (j : Nat), j < P.length → flatM (P.set j z) = ((flatM P).set (j * 2) (.int .i64 z.1)).set (j * 2 + 1) (.int .i64 z.2)
  | [], j, h => by simp at h
  | x :: P, 0, _ => by simp [flatM, mc]
  | x :: P, j + 1, h => by
    have e : ∀ (y : M) (Q : List M), flatM (y :: Q) = Value.int .i64 y.1 :: Value.int .i64 y.2 :: flatM Q := fun y Q => by simp [flatM, mc]
    rw [List.set_cons_succ, e, e, flatM_set j (by simpa using h), show (j + 1) * 2 = j * 2 + 1 + 1 by omega]
    simp only [List.set_cons_succ]
theorem own_setM {w : World} {B e size n cap g k : Nat} {xs : List Value} {u : Value} (h : w.ownsRow B e size (.slice (some ⟨g, 0, none⟩) n cap) n xs) (hk : k < xs.length) :
    (w.setCell ⟨g, k, none⟩ u).ownsRow B e size (.slice (some ⟨g, 0, none⟩) n cap) n (xs.set k u) := by
  rcases h.2 with ⟨h', _⟩ | ⟨g', cap', cur, hv, hb, hh, hnc, hcm, hsz, htk⟩
  · simp at h'
  · injection hv with e1 e2 e3
    injection e1 with e1
    injection e1 with e1
    subst e1 e3
    refine ⟨by rw [List.length_set]; exact h.1, Or.inr ⟨g, cap, cur.setIfInBounds k u, rfl, hb, heap_setCell_same w g k cur e u hh, hnc, hcm, by simp [hsz], ?_⟩⟩
    rw [Array.toList_setIfInBounds, List.take_set, htk]
/-- A member of a row of the call's own is another one. -/
theorem Mow.set {w : World} {B g n c j : Nat} {P : List M} {z : M} (h : Mow w B (some ⟨g, 0, none⟩) n c P) (hj : j < n) (hz : Min z) : Mow (w.setCells g (j * 2) (mc z).toList) B (some ⟨g, 0, none⟩) n c (P.set j z) := by
  have hl := flatM_len P
  have hP := h.len
  refine ⟨?_, fun m hm => ?_, by simp [hP]⟩
  · rw [flatM_set j (by omega)]
    exact own_setM (own_setM h.own (by omega)) (by rw [List.length_set]; omega)
  · rcases List.mem_or_eq_of_mem_set hm with h' | rfl
    · exact h.mem m h'
    · exact hz
theorem Mow.there {w : World} {B g n c j : Nat} {P : List M} (h : Mow w B (some ⟨g, 0, none⟩) n c P) (hj : j < n) : w.there g (j * 2) 2 := by
  rcases h.own.2 with ⟨h', _⟩ | ⟨g', cap', cur, hv, hb, hh, hnc, hcm, hsz, htk⟩
  · simp at h'
  · injection hv with e1 e2 e3
    injection e1 with e1
    injection e1 with e1
    subst e1 e3
    intro k hk
    refine ⟨?_, by simp [World.frozen?, hh]⟩
    have : j * 2 + k < cur.size := by omega
    simp [World.cell?, hh, this]
set_option maxHeartbeats 8000000 in
theorem joined_any {w : World} {S S' : Nat → Prop} {a a' : Option Addr} {n n' c c' : Nat} {l l' : List M} (h : Ms w S a n l) (hc : n ≤ c) (h' : Ms w S' a' n' l') (hc' : n' ≤ c') (hn : n ≤ 10000) (hn' : n' ≤ 10000) :
    Calls Try.prog 25 #[.slice a n c, .slice a' n' c', .func (.func 13) #[] #[]] w (RowQ w (all l l')) := by
  obtain ⟨k, hk⟩ : ∃ k, min n n' = k := ⟨_, rfl⟩
  have hkn : k ≤ n ∧ k ≤ n' ∧ (k = n ∨ k = n') := by omega
  have hmin : min (n : Int) (n' : Int) = (k : Int) := by omega
  have hif1 : (if (n' : Int) < (n : Int) then (n' : Int) else (n : Int)) = (k : Int) := by split <;> omega
  have hif2 : (if (n : Int) < (n' : Int) then (n : Int) else (n' : Int)) = (k : Int) := by split <;> omega
  have hs0 := slice_loM (a := a') (n := n') (c := c') (k := k) hkn.2.1
  have hd := ms_drop h' hc' hkn.2.1
  obtain ⟨a3, ha3⟩ : ∃ a3, (if c' = k then a' else a'.map (·.add (k * 2))) = a3 := ⟨_, rfl⟩
  obtain ⟨n3, hn3⟩ : ∃ n3, n' - k = n3 := ⟨_, rfl⟩
  obtain ⟨c3, hc3⟩ : ∃ c3, c' - k = c3 := ⟨_, rfl⟩
  rw [ha3, hn3, hc3] at hs0
  rw [ha3, hn3] at hd
  have HD := Lib.hid hd
  have HN3 := Lib.hid hn3
  have HL := Lib.hid (And.intro h.1 h'.1)
  have HK := Lib.hid hkn
  have HMI := Lib.hid (And.intro h.2.1 h'.2.1)
  have H := Lib.hid (And.intro h.old h'.old)
  clear hd h h' ha3 hn3 hc3 hkn hk
  go_enter Try.func25, Try.ntmps25
  go_upto_region 2 with fail
  go_wp2_with fail
  have hb1 := below_alloc w (.cells #[.slice a n c, .slice a3 n3 c3] 30)
  have hw1 := Whole.new w 30 #[.slice a n c, .slice a3 n3 c3]
  have hs1 := size_alloc w (.cells #[.slice a n c, .slice a3 n3 c3] 30)
  generalize w.alloc (.cells #[.slice a n c, .slice a3 n3 c3] 30) = w1 at *
  have hT : Two w1 w.heap.size (.slice a n c) (.slice a3 n3 c3) := ⟨by omega, hw1.cell 0, hw1.cell 1⟩
  refine (concat_any (H.out.1.below hb1 (fun _ _ h => h)) (HD.out.old.below hb1 (fun _ _ h => h)) hT hn (by have := HN3.out; omega)).mono ?_
  rintro e w2 ⟨a2, N, c2, rfl, hm2, hb2⟩
  have hNN : N = n + n3 := by rw [← hm2.len, List.length_append, List.length_drop, HL.out.1, HL.out.2, ← HN3.out]
  have hZY : (all l l').length = (l ++ l'.drop k).length := by
    rw [all_len, List.length_append, List.length_drop, HL.out.1, HL.out.2]
    have := HK.out
    omega
  obtain ⟨Z, hZ⟩ : ∃ Z, all l l' = Z := ⟨_, rfl⟩
  obtain ⟨Y, hY⟩ : ∃ Y, l ++ l'.drop k = Y := ⟨_, rfl⟩
  have hend := mix_end (a := l) (b := l') (k := k) (by rw [HL.out.1, HL.out.2]; have := HK.out; omega)
  have hat : ∀ j, j < k → Z.getD j nought = join (l.getD j nought) (l'.getD j nought) := fun j hj => by
    rw [← hZ]
    exact all_at (by rw [HL.out.1]; have := HK.out; omega) (by rw [HL.out.2]; have := HK.out; omega)
  rw [hZ, hY] at hZY hend
  rw [hZ]
  rw [hY] at hm2
  have HZ := Lib.hid (And.intro hZY (And.intro hend (And.intro hat (show Y.length = N from hm2.len))))
  have HZZ := Lib.hid hZ
  have HJ0 : Hid (Mow w2 w.heap.size a2 N c2 (mix Z Y 0) ∧ Below w.heap.size w w2) := Lib.hid ⟨hm2.mono (by omega), hb1.trans (hb2.mono (by omega))⟩
  have HNN : Hid (N = n + n3) := Lib.hid hNN
  clear hb1 hw1 hs1 hT hm2 hb2 hNN hZY hend hat hZ hY hs0 hmin hif1 hif2
  generalize hB : w.heap.size = B at *
  have HB := Lib.hid hB
  clear hB
  go_wp2
  go_loopw [9, 22] (fun _ i wr => ∃ j : Nat, j ≤ k ∧ i = .int .i64 (j : Int) ∧ Hid (Mow wr B a2 N c2 (mix Z Y j) ∧ Below B w wr)) (fun _ i _ => k - (intOf i).toNat)
  case atStart => exact ⟨0, Nat.zero_le _, rfl, HJ0⟩
  case round =>
    clear HJ0
    obtain ⟨j, hj, rfl, HJ⟩ := hrel
    by_cases hlt : j < k
    case neg =>
      have q1 : ¬ ((j : Int) < (k : Int)) := by omega
      have hjk : j = k := by omega
      subst hjk
      go_wp2
      go_ret
      refine ⟨a2, N, c2, rfl, ?_, ?_⟩
      · rw [HB.out, HZZ.out, ← HZ.out.2.1]; exact HJ.out.1
      · rw [HB.out]; exact HJ.out.2
    have q1 : (j : Int) < (k : Int) := by omega
    have hkn := HK.out
    have hlt1 : j < n := by omega
    have hlt2 : j < n' := by omega
    have hlt3 : j < N := by have := HNN.out; have := HN3.out; omega
    have hB2 : B ≤ wr.heap.size := by rw [← HB.out]; exact HJ.out.2.size
    obtain ⟨b, off, rfl, hbB, hbl, c0, c1⟩ := (H.out.1.below HJ.out.2 (fun _ _ h => h)).at_ hlt1
    obtain ⟨b', off', rfl, hbB', hbl', d0, d1⟩ := (H.out.2.below HJ.out.2 (fun _ _ h => h)).at_ hlt2
    have hmx : Min (l.getD j nought) := H.out.1.in_ hlt1
    have hmy : Min (l'.getD j nought) := H.out.2.in_ hlt2
    have hset := mix_set HZ.out.1 (j := j) (by rw [HZ.out.1, HZ.out.2.2.2]; exact hlt3)
    rw [HZ.out.2.2.1 j hlt] at hset
    obtain ⟨x, hx⟩ : ∃ x, l.getD j nought = x := ⟨_, rfl⟩
    obtain ⟨y, hy⟩ : ∃ y, l'.getD j nought = y := ⟨_, rfl⟩
    rw [hx] at c0 c1 hmx hset
    rw [hy] at d0 d1 hmy hset
    obtain ⟨g, cap, hv, hBg, hgl⟩ := HJ.out.1.own.form (by omega)
    injection hv with e1 e2 e3
    subst e1 e3
    have rx : wr.drew.rangeAt b (off + j * 2) (mc x).toList := range2 c0 c1
    have ry : wr.drew.rangeAt b' (off' + j * 2) (mc y).toList := range2 d0 d1
    have und := Try.underlying24
    have iX : (Try.prog.info? 24).map (·.size) = some (mc x).toList.length := info2
    have iY : (Try.prog.info? 24).map (·.size) = some (mc y).toList.length := info2
    have HMJ := Lib.hid (And.intro (min_join hmx hmy) (And.intro hset (And.intro hBg (And.intro hbB hbB'))))
    have q3 : (j : Int) < (N : Int) := by omega
    clear c0 c1 d0 d1 hx hy hmx hmy hset hkn
    go_upto_region 6 with fail
    refine wp_region_held_drew (S := fun w' => w'.rangeAt b (off + j * 2) (mc x).toList ∧ w'.rangeAt b' (off' + j * 2) (mc y).toList) (by kernel_rfl) ⟨rx, ry⟩ (fun hHeld => ?_)
    refine wpAnyH_take (i := 0) (v := .slice (some ⟨g, 0, none⟩) N c2) rfl (by kernel_rfl) (by kernel_rfl) (by kernel_rfl) (fun _ _ _ h => h) (Or.inl ⟨by rfl, (by intro w hSw; (try dsimp only at hSw); go_simp)⟩) (by assumption) ?_
    try simp only [Act.put, List.getElem_toArray, List.getElem_cons_zero, List.getElem_cons_succ, List.setIfInBounds_toArray, List.set_cons_zero, List.set_cons_succ]
    refine wpAnyH_take (i := 1) (v := .int .i64 (j : Int)) rfl (by kernel_rfl) (by kernel_rfl) (by kernel_rfl) (fun _ _ _ h => h) (Or.inl ⟨by rfl, (by intro w hSw; (try dsimp only at hSw); go_simp)⟩) (by assumption) ?_
    try simp only [Act.put, List.getElem_toArray, List.getElem_cons_zero, List.getElem_cons_succ, List.setIfInBounds_toArray, List.set_cons_zero, List.set_cons_succ]
    refine wpAnyH_take (i := 2) (v := .func (.func 13) #[] #[]) rfl (by kernel_rfl) (by kernel_rfl) (by kernel_rfl) (fun _ _ _ h => h) (Or.inl ⟨by rfl, (by intro w hSw; (try dsimp only at hSw); go_simp)⟩) (by assumption) ?_
    try simp only [Act.put, List.getElem_toArray, List.getElem_cons_zero, List.getElem_cons_succ, List.setIfInBounds_toArray, List.set_cons_zero, List.set_cons_succ]
    refine wpAnyH_take (i := 3) (v := .slice (some ⟨b, off, none⟩) n c) rfl (by kernel_rfl) (by kernel_rfl) (by kernel_rfl) (fun _ _ _ h => h) (Or.inl ⟨by rfl, (by intro w hSw; (try dsimp only at hSw); go_simp)⟩) (by assumption) ?_
    try simp only [Act.put, List.getElem_toArray, List.getElem_cons_zero, List.getElem_cons_succ, List.setIfInBounds_toArray, List.set_cons_zero, List.set_cons_succ]
    refine wpAnyH_take (i := 4) (v := .int .i64 (j : Int)) rfl (by kernel_rfl) (by kernel_rfl) (by kernel_rfl) (fun _ _ _ h => h) (Or.inl ⟨by rfl, (by intro w hSw; (try dsimp only at hSw); go_simp)⟩) (by assumption) ?_
    try simp only [Act.put, List.getElem_toArray, List.getElem_cons_zero, List.getElem_cons_succ, List.setIfInBounds_toArray, List.set_cons_zero, List.set_cons_succ]
    refine wpAnyH_take (i := 5) (v := .pointer (some ⟨b, off + j * 2, none⟩)) rfl (by kernel_rfl) (by kernel_rfl) (by kernel_rfl) (fun _ _ _ h => h) (Or.inl ⟨by rfl, (by intro w hSw; (try dsimp only at hSw); go_simp)⟩) (by assumption) ?_
    try simp only [Act.put, List.getElem_toArray, List.getElem_cons_zero, List.getElem_cons_succ, List.setIfInBounds_toArray, List.set_cons_zero, List.set_cons_succ]
    refine wpAnyH_take (i := 6) (v := .agg (mc x)) rfl (by kernel_rfl) (by kernel_rfl) (by kernel_rfl) (fun _ _ _ h => h) (yieldsIf_load_mid (by rfl) _ _ rfl _ _ rfl _ _ (fun w hSw => hSw.1) und rfl iX) (by assumption) ?_
    try simp only [Act.put, List.getElem_toArray, List.getElem_cons_zero, List.getElem_cons_succ, List.setIfInBounds_toArray, List.set_cons_zero, List.set_cons_succ]
    refine wpAnyH_take (i := 7) (v := .slice (some ⟨b', off', none⟩) n' c') rfl (by kernel_rfl) (by kernel_rfl) (by kernel_rfl) (fun _ _ _ h => h) (Or.inl ⟨by rfl, (by intro w hSw; (try dsimp only at hSw); go_simp)⟩) (by assumption) ?_
    try simp only [Act.put, List.getElem_toArray, List.getElem_cons_zero, List.getElem_cons_succ, List.setIfInBounds_toArray, List.set_cons_zero, List.set_cons_succ]
    refine wpAnyH_take (i := 8) (v := .int .i64 (j : Int)) rfl (by kernel_rfl) (by kernel_rfl) (by kernel_rfl) (fun _ _ _ h => h) (Or.inl ⟨by rfl, (by intro w hSw; (try dsimp only at hSw); go_simp)⟩) (by assumption) ?_
    try simp only [Act.put, List.getElem_toArray, List.getElem_cons_zero, List.getElem_cons_succ, List.setIfInBounds_toArray, List.set_cons_zero, List.set_cons_succ]
    refine wpAnyH_take (i := 9) (v := .pointer (some ⟨b', off' + j * 2, none⟩)) rfl (by kernel_rfl) (by kernel_rfl) (by kernel_rfl) (fun _ _ _ h => h) (Or.inl ⟨by rfl, (by intro w hSw; (try dsimp only at hSw); go_simp)⟩) (by assumption) ?_
    try simp only [Act.put, List.getElem_toArray, List.getElem_cons_zero, List.getElem_cons_succ, List.setIfInBounds_toArray, List.set_cons_zero, List.set_cons_succ]
    refine wpAnyH_take (i := 10) (v := .agg (mc y)) rfl (by kernel_rfl) (by kernel_rfl) (by kernel_rfl) (fun _ _ _ h => h) (yieldsIf_load_mid (by rfl) _ _ rfl _ _ rfl _ _ (fun w hSw => hSw.2) und rfl iY) (by assumption) ?_
    try simp only [Act.put, List.getElem_toArray, List.getElem_cons_zero, List.getElem_cons_succ, List.setIfInBounds_toArray, List.set_cons_zero, List.set_cons_succ]
    refine wpAnyH_ready (rs := [11]) (by kernel_rfl) (by simp) (AllReadyH.cons rfl (fun K hK => ?_) AllReadyH.nil)
    try simp only [List.getElem_toArray, List.getElem_cons_zero, List.getElem_cons_succ]
    go_simp
    refine (join_any x y _).mono ?_
    rintro e w3 ⟨rfl, hb3⟩
    have hb3' : Below wr.heap.size wr w3 := below_drew hb3
    have H3 : Hid (Mow w3 B (some ⟨g, 0, none⟩) N c2 (mix Z Y j) ∧ Below B w w3 ∧ B ≤ w3.heap.size) := Lib.hid ⟨HJ.out.1.below hb3', HJ.out.2.trans (hb3'.mono hB2), Nat.le_trans hB2 hb3'.size⟩
    have r3 : w3.rangeAt b (off + j * 2) (mc x).toList ∧ w3.rangeAt b' (off' + j * 2) (mc y).toList := ⟨fun k v hv => (hb3'.cell (p := ⟨b, off + j * 2 + k, none⟩) hbl).trans (rx k v hv), fun k v hv => (hb3'.cell (p := ⟨b', off' + j * 2 + k, none⟩) hbl').trans (ry k v hv)⟩
    clear hb3 hb3' hHeld rx ry HJ hBg hgl
    obtain ⟨z, hz⟩ : ∃ z, join x y = z := ⟨_, rfl⟩
    rw [hz] at HMJ ⊢
    clear hz
    go_wp2_with fail
    refine hK.out _ _ r3 (fun hHeld => ?_)
    clear hK K hHeld
    try simp only [Act.put, List.getElem_toArray, List.getElem_cons_zero, List.getElem_cons_succ, List.setIfInBounds_toArray, List.set_cons_zero, List.set_cons_succ]
    have hHeld := r3
    refine wpAnyH_take (i := 12) (v := .pointer (some ⟨g, j * 2, none⟩)) rfl (by kernel_rfl) (by kernel_rfl) (by kernel_rfl) (fun _ _ _ h => h) (Or.inl ⟨by rfl, (by intro w hSw; (try dsimp only at hSw); go_simp)⟩) (by assumption) ?_
    try simp only [Act.put, List.getElem_toArray, List.getElem_cons_zero, List.getElem_cons_succ, List.setIfInBounds_toArray, List.set_cons_zero, List.set_cons_succ]
    refine wpAnyH_ready (rs := [13]) (by kernel_rfl) (by simp) (AllReadyH.cons rfl (fun K hK => ?_) AllReadyH.nil)
    try simp only [List.getElem_toArray, List.getElem_cons_zero, List.getElem_cons_succ]
    refine if_wanted (by rfl) ?_
    refine wp_store_mid 24 (.tmp 37) (.tmp 36) rfl g (j * 2) (mc z) rfl rfl (H3.out.1.there hlt3) info2 (mc_one z) ?_
    have hm4 := H3.out.1.set hlt3 HMJ.out.1
    rw [HMJ.out.2.1] at hm4
    have hb4 : Below B w3 (w3.setCells g (j * 2) (mc z).toList) := ((Below.refl B w3).setCell (p := ⟨g, j * 2, none⟩) HMJ.out.2.2.1 _).setCell (p := ⟨g, j * 2 + 1, none⟩) HMJ.out.2.2.1 _
    have r4 : (w3.setCells g (j * 2) (mc z).toList).rangeAt b (off + j * 2) (mc x).toList ∧ (w3.setCells g (j * 2) (mc z).toList).rangeAt b' (off' + j * 2) (mc y).toList := ⟨fun k v hv => (hb4.cell (p := ⟨b, off + j * 2 + k, none⟩) HMJ.out.2.2.2.1).trans (r3.1 k v hv), fun k v hv => (hb4.cell (p := ⟨b', off' + j * 2 + k, none⟩) HMJ.out.2.2.2.2).trans (r3.2 k v hv)⟩
    have HJ5 : Hid (Mow (w3.setCells g (j * 2) (mc z).toList) B (some ⟨g, 0, none⟩) N c2 (mix Z Y (j + 1)) ∧ Below B w (w3.setCells g (j * 2) (mc z).toList)) := Lib.hid ⟨hm4, H3.out.2.1.trans hb4⟩
    clear hm4 hb4 hHeld r3 H3
    generalize w3.setCells g (j * 2) (mc z).toList = w4 at *
    refine hK.out _ _ r4 (fun hHeld => ?_)
    clear hK K hHeld
    try simp only [Act.put, List.getElem_toArray, List.getElem_cons_zero, List.getElem_cons_succ, List.setIfInBounds_toArray, List.set_cons_zero, List.set_cons_succ]
    have hHeld := r4
    refine wpAnyH_done (by kernel_rfl) ?_ _
    clear hHeld r4 und iX iY
    go_wp2
    exact ⟨⟨j + 1, by omega, by go_num, HJ5⟩, by simp [intOf]; omega⟩
theorem all_any {w : World} {S S' : Nat → Prop} {a a' : Option Addr} {n n' c c' : Nat} {l l' : List M} (h : Ms w S a n l) (hc : n ≤ c) (h' : Ms w S' a' n' l') (hc' : n' ≤ c') (hn : n ≤ 10000) (hn' : n' ≤ 10000) :
    Calls Try.prog 22 #[.slice a n c, .slice a' n' c'] w (RowQ w (all l l')) := by
  have HC := Lib.hid (joined_any h hc h' hc' hn hn')
  clear h h' hc hc' hn hn'
  go_enter Try.func22, Try.ntmps22
  go_wp2_with fail
  refine HC.out.mono ?_
  rintro e w2 ⟨a2, n2, c2, rfl, hq⟩
  have HQ := Lib.hid hq
  clear hq HC
  go_wp2
  go_ret
  exact ⟨a2, n2, c2, rfl, HQ.out⟩
/-- What the package's functions answer. -/
theorem mem : Mem where
  check := check_any
  join := join_any
  speak := fun a b w _ hb => speak_any a b hb w
  suspect := suspect_any
  bury := bury_any
  all := fun h hc h' hc' hn hn' => all_any h hc h' hc' (by omega) (by omega)
end Go.Proofs.Ytlcpiompmpccoaa
