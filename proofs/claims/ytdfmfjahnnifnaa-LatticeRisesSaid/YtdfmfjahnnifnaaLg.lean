/-
  What the package's other functions answer of lists of one's own; the walk of LatticeBest.
-/
import Derived.Test.YtdfmfjahnnifnaaLe
namespace Go.Proofs.Ytdfmfjahnnifnaa
set_option maxRecDepth 20000
set_option linter.unusedSimpArgs false
set_option linter.unusedVariables false
open Go.RowKit Go.Great
section
variable {w w' : World} {a b : Option Addr} {n c m d : Nat} {l q : List Ft.Fact} {N : Int}
theorem ol_has (L : Lat) (h : OL w a n c l) (hg : La.Good N l) (hl : l.length ≤ 200) (k e x : Int) :
    Calls Try.prog 29 #[.slice a n c, .int .i64 k, .int .i64 e, .int .i64 x] w fun r w' => r = .returned (.bool (decide (La.has l k e x))) ∧ Below w.heap.size w w' := by
  have hn := h.len
  obtain ⟨R, h1, h2⟩ := h
  have := L.has N k e x h1.fts h1.le (by omega) (by rw [h2]; exact hg)
  rwa [h2] at this
theorem ol_aborted (L : Lat) (h : OL w a n c l) (hg : La.Good N l) (hl : l.length ≤ 200) (e x : Int) :
    Calls Try.prog 23 #[.slice a n c, .int .i64 e, .int .i64 x] w fun r w' => r = .returned (.bool (decide (La.aborted l e x))) ∧ Below w.heap.size w w' := by
  have hn := h.len
  obtain ⟨R, h1, h2⟩ := h
  have := L.aborted N e x h1.fts h1.le (by omega) (by rw [h2]; exact hg)
  rwa [h2] at this
theorem ol_best (L : Lat) (h : OL w a n c l) (hg : La.Good N l) (hl : l.length ≤ 200) (x : Int) :
    Calls Try.prog 25 #[.slice a n c, .int .i64 x] w fun r w' => r = .returned (.int .i64 (La.best l x)) ∧ Below w.heap.size w w' := by
  have hn := h.len
  obtain ⟨R, h1, h2⟩ := h
  have := L.best N x h1.fts h1.le (by omega) (by rw [h2]; exact hg)
  rwa [h2] at this
theorem ol_next (L : Lat) (h : OL w a n c l) (hg : La.Good N l) (hl : l.length ≤ 200) :
    Calls Try.prog 27 #[.slice a n c] w fun r w' => r = .returned (.int .i64 (La.next l)) ∧ Below w.heap.size w w' := by
  have hn := h.len
  obtain ⟨R, h1, h2⟩ := h
  have := L.next N h1.fts h1.le (by omega) (by rw [h2]; exact hg)
  rwa [h2] at this
theorem ol_mani (L : Lat) (h : OL w a n c l) (hg : La.Good N l) (hl : l.length ≤ 200) (hf : ∀ f ∈ l, f.man.ds.length ≤ 100) (e : Int) :
    Calls Try.prog 17 #[.slice a n c, .int .i64 e] w (ManiQ w (La.mani l e)) := by
  have hn := h.len
  obtain ⟨R, h1, h2⟩ := h
  have := L.mani N e h1.fts h1.le (by omega) (by rw [h2]; exact hg) (fewR_of h2 hf)
  rwa [h2] at this
theorem ol_who (L : Lat) (h : OL w a n c l) (hg : La.Good N l) (hl : l.length ≤ 200) (k e : Int) :
    Calls Try.prog 21 #[.slice a n c, .int .i64 k, .int .i64 e] w (Whos w (La.who l k e)) := by
  have hn := h.len
  obtain ⟨R, h1, h2⟩ := h
  have := L.who N k e h1.fts h1.le (by omega) (by rw [h2]; exact hg)
  rwa [h2] at this
/-- The members of a list of one's own. -/
theorem OL.at_ (h : OL w a n c l) {j : Nat} (hj : j < n) : ∃ b off M, a = some ⟨b, off, none⟩ ∧ b < w.heap.size ∧ w.rangeAt b (off + j * 38) (fc (l.getD j Ft.nought, M)) ∧ Rw w (fun _ => True) (l.getD j Ft.nought, M) := by
  obtain ⟨R, h1, h2⟩ := h
  obtain ⟨b, off, e, _, hb, hrg, hrw⟩ := h1.fts.at_ hj
  have e2 : l.getD j Ft.nought = (R.getD j d0).1 := by rw [← h2, FS_get]
  refine ⟨b, off, (R.getD j d0).2, e, hb, ?_, ?_⟩
  · rw [e2]; exact hrg
  · rw [e2]; exact hrw.weak (fun _ _ _ => trivial)
theorem getD_mem {l : List Ft.Fact} {j : Nat} (h : j < l.length) : l.getD j Ft.nought ∈ l := by
  have : l.getD j Ft.nought = l[j] := by simp [h]
  rw [this]; exact List.getElem_mem h
end
/-- Two lists of one's own. -/
structure Two (w wr : World) (a : Option Addr) (n c : Nat) (l : List Ft.Fact) (b : Option Addr) (m d : Nat) (q : List Ft.Fact) : Prop where
  one : OL wr a n c l
  two : OL wr b m d q
  below : Below w.heap.size w wr
theorem Two.on {w wr wr' : World} {a b : Option Addr} {n c m d : Nat} {l q : List Ft.Fact} (h : Two w wr a n c l b m d q) (hb : Below wr.heap.size wr wr') : Two w wr' a n c l b m d q :=
  ⟨h.one.below hb, h.two.below hb, h.below.trans (hb.mono h.below.size)⟩
set_option maxHeartbeats 4000000 in
theorem best_walk (L : Lat) {w : World} {S D S' D' : Nat → Prop} {p p' : Option Addr} {n m c d : Nat} {R Q : List Fm} (h : Fts w S D p n R) (h' : Fts w S' D' p' m Q) (N M : Int) :
    Calls Try.prog 8 #[.int .i64 N, .slice p n c, .slice p' m d, .int .i64 M] w fun e w' => e = .returned (.bool true) ∧ Below w.heap.size w w' := by
  have H := Lib.hid h.old
  have H' := Lib.hid h'.old
  clear h h'
  obtain ⟨x, hx⟩ : ∃ x, La.grown N (FS R) 40 = x := ⟨_, rfl⟩
  obtain ⟨y, hy⟩ : ∃ y, La.grown N (FS Q) 40 = y := ⟨_, rfl⟩
  obtain ⟨z, hz⟩ : ∃ z, La.merge N x y = z := ⟨_, rfl⟩
  have HX := Lib.hid (And.intro hx (And.intro hy hz))
  have gx : Gd N x 40 := by rw [← hx]; exact Gd.grown _ _ _
  have gy : Gd N y 40 := by rw [← hy]; exact Gd.grown _ _ _
  have gz : Gd N z 80 := by rw [← hz]; exact gx.merge gy.few gy.len
  have HAM : Hid (∀ e, La.aborted x e M → La.aborted z e M) := Lib.hid (fun e he => by rw [← hz]; exact La.aborted_more he)
  have HMO : Hid (La.next x ≤ La.next z) := Lib.hid (by rw [← hz]; exact La.next_more (fun f hf => La.mem_merge y hf))
  have GX := Lib.hid (And.intro gx gz)
  have GY := Lib.hid gy
  have lx : x.length ≤ 40 := gx.len
  have lz : z.length ≤ 80 := gz.len
  clear gx gy gz hx hy hz
  obtain ⟨bs, hbs⟩ : ∃ bs, La.best x M = bs := ⟨_, rfl⟩
  have HBE := Lib.hid hbs
  have HB0 : Hid (bs ≠ 0 → (∃ o, La.mani x bs = some o) ∧ ¬ La.aborted x bs M) := Lib.hid (fun hne => by
    have := (La.best_is x M).1
    rw [hbs] at this
    rcases this with h | ⟨f, hf, hk, he, ha⟩
    · exact absurd h hne
    · exact ⟨by rw [← he]; exact La.mani_some hf hk, ha⟩)
  clear hbs
  go_enter Try.func8, Try.ntmps8
  go_wp2_with (first | (go_at_call 12; refine (awake_any L _).mono ?_; rintro e w1 ⟨rfl, hb1⟩; have HB1 := Lib.hid hb1; clear hb1) | fail)
  refine (ol_grown40 L (H.out.below HB1.out (fun _ _ h => h) (fun _ _ h => h)) N).mono ?_
  rintro e w2 ⟨ax, nx, cx, rfl, hox, hb2⟩
  rw [HX.out.1] at hox
  have HO2 := Lib.hid hox
  have HB2 := Lib.hid (HB1.out.trans (hb2.mono HB1.out.size))
  have hnx : nx ≤ 40 := by have := hox.len; omega
  clear hox hb2 HB1
  go_wp2_with fail
  refine (ol_grown40 L (H'.out.below HB2.out (fun _ _ h => h) (fun _ _ h => h)) N).mono ?_
  rintro e w3 ⟨ay, ny, cy, rfl, hoy, hb3⟩
  rw [HX.out.2.1] at hoy
  have HO3 := Lib.hid (And.intro (HO2.out.below hb3) hoy)
  have HB3 := Lib.hid (HB2.out.trans (hb3.mono HB2.out.size))
  clear hoy hb3 HB2 HO2
  go_wp2_with fail
  refine (ol_merge L HO3.out.1 GX.out.1 HO3.out.2 GY.out.few GY.out.len (by omega) (by omega)).mono ?_
  rintro e v1 ⟨az, nz, cz, rfl, hoz, hb4⟩
  rw [HX.out.2.2] at hoz
  have HKv1 : Hid (Two w v1 ax nx cx x az nz cz z) := Lib.hid ⟨HO3.out.1.below hb4, hoz, HB3.out.trans (hb4.mono HB3.out.size)⟩
  clear hoz hb4 HO3 HB3 H H'
  go_wp2_with fail
  refine (ol_best L HKv1.out.one GX.out.1.good (by omega) M).mono ?_
  rintro e v2 ⟨rfl, hbn⟩
  have HKv2 := Lib.hid (HKv1.out.on hbn)
  clear hbn HKv1
  rw [HBE.out]
  by_cases hz0 : bs = 0
  · have z0 : (bs != 0) = false := by simp [hz0]
    clear hz0 HB0
    go_wp2
    go_loopw [15, 16, 17, 18] (fun i _ _ _ wr => ∃ j : Nat, j ≤ nx ∧ i = .int .i64 (j : Int) ∧ Hid (Two w wr ax nx cx x az nz cz z)) (fun i _ _ _ _ => nx - (intOf i).toNat)
    case atStart => exact ⟨0, Nat.zero_le _, rfl, HKv2⟩
    case round =>
      obtain ⟨j, hj, rfl, HK⟩ := hrel
      by_cases hlt : j < nx
      case neg =>
        have q : ¬ ((j : Int) < (nx : Int)) := by omega
        go_wp2_with fail
        refine (ol_next L HK.out.two GX.out.2.good (by omega)).mono ?_
        rintro e v4 ⟨rfl, hbn⟩
        have HKv4 := Lib.hid (HK.out.on hbn)
        clear hbn HK
        go_wp2_with fail
        refine (ol_next L HKv4.out.one GX.out.1.good (by omega)).mono ?_
        rintro e v5 ⟨rfl, hbn⟩
        have HKv5 := Lib.hid (HKv4.out.on hbn)
        clear hbn HKv4
        have hmore := HMO.out
        generalize La.next z = nz' at *
        generalize La.next x = nx' at *
        go_wp2
        go_ret
        exact ⟨rfl, HKv5.out.below⟩
      have q : (j : Int) < (nx : Int) := by omega
      obtain ⟨b, off, M', rfl, hbl, hrg, hrw⟩ := HK.out.one.at_ hlt
      have hmem : x.getD j Ft.nought ∈ x := getD_mem (by have := HK.out.one.len; omega)
      generalize x.getD j Ft.nought = y at *
      have HNX : Hid (Ft.ofK y.epoch < La.next x ∧ 0 ≤ Ft.ofK y.epoch) := Lib.hid ⟨La.next_above hmem, (La.ofK_in _).1⟩
      have HBS : Hid (y.kind = 1 → ¬ La.aborted x y.epoch M → y.epoch ≤ bs) := Lib.hid (by have := (La.best_is x M).2 y hmem; rwa [HBE.out] at this)
      have HMA : Hid (La.aborted x y.epoch M → La.aborted z y.epoch M) := Lib.hid (HAM.out _)
      obtain ⟨xk, xe, xn, xm⟩ := y
      have c0 : wr.cell? ⟨b, off + j * 38, none⟩ = some (.int .i64 xk) := range_c0 hrg
      have c1 : wr.cell? ⟨b, off + j * 38 + 1, none⟩ = some (.int .i64 xe) := range_c1 hrg
      clear hrg hrw hmem hbl
      by_cases k1 : xk = 1 ∧ bs < xe
      · obtain ⟨k1, k2⟩ := k1
        have q0 : (xk == 1) = true := by simp [k1]
        have HT : Hid (La.aborted x xe M) := Lib.hid (Decidable.byContradiction fun hno => by have h9 : xe ≤ bs := HBS.out k1 hno; omega)
        clear k1
        go_wp2_with fail
        refine (ol_aborted L HK.out.one GX.out.1.good (by omega) xe M).mono ?_
        rintro e v4 ⟨rfl, hbn⟩
        have HKv4 := Lib.hid (HK.out.on hbn)
        clear hbn HK
        rw [decide_eq_true HT.out]
        go_wp2_with fail
        refine (ol_aborted L HKv4.out.one GX.out.1.good (by omega) xe M).mono ?_
        rintro e v5 ⟨rfl, hbn⟩
        have HKv5 := Lib.hid (HKv4.out.on hbn)
        clear hbn HKv4
        rw [decide_eq_true HT.out]
        go_wp2_with fail
        refine (ol_aborted L HKv5.out.two GX.out.2.good (by omega) xe M).mono ?_
        rintro e v6 ⟨rfl, hbn⟩
        have HKv6 := Lib.hid (HKv5.out.on hbn)
        clear hbn HKv5
        rw [decide_eq_true (HMA.out HT.out)]
        go_wp2_with fail
        refine (of_any _ _).mono ?_
        rintro e v8 ⟨rfl, rfl⟩
        have hnk := HNX.out.1
        have hnk2 := HNX.out.2
        generalize Ft.ofK xe = K' at *
        generalize Ft.ofN xe = K2 at *
        go_wp2_with fail
        refine (ol_next L HKv6.out.one GX.out.1.good (by omega)).mono ?_
        rintro e v9 ⟨rfl, hbn⟩
        have HKv9 := Lib.hid (HKv6.out.on hbn)
        clear hbn HKv6
        generalize La.next x = nx' at *
        go_wp2
        exact ⟨⟨j + 1, by omega, by go_num, HKv9⟩, by simp [intOf]; omega⟩
      · by_cases k2 : xk = 1
        · have q0 : (xk == 1) = true := by simp [k2]
          have q1 : ¬ bs < xe := fun h => k1 ⟨k2, h⟩
          clear k1 k2
          go_wp2_with fail
          refine (ol_aborted L HK.out.one GX.out.1.good (by omega) xe M).mono ?_
          rintro e v4 ⟨rfl, hbn⟩
          have HKv4 := Lib.hid (HK.out.on hbn)
          clear hbn HK
          by_cases ht : La.aborted x xe M
          · rw [decide_eq_true ht]
            have HT := Lib.hid (HMA.out ht)
            clear ht
            go_wp2_with fail
            refine (ol_aborted L HKv4.out.two GX.out.2.good (by omega) xe M).mono ?_
            rintro e v6 ⟨rfl, hbn⟩
            have HKv6 := Lib.hid (HKv4.out.on hbn)
            clear hbn HKv4
            rw [decide_eq_true HT.out]
            go_wp2_with fail
            refine (of_any _ _).mono ?_
            rintro e v8 ⟨rfl, rfl⟩
            have hnk := HNX.out.1
            have hnk2 := HNX.out.2
            generalize Ft.ofK xe = K' at *
            generalize Ft.ofN xe = K2 at *
            go_wp2_with fail
            refine (ol_next L HKv6.out.one GX.out.1.good (by omega)).mono ?_
            rintro e v9 ⟨rfl, hbn⟩
            have HKv9 := Lib.hid (HKv6.out.on hbn)
            clear hbn HKv6
            generalize La.next x = nx' at *
            go_wp2
            exact ⟨⟨j + 1, by omega, by go_num, HKv9⟩, by simp [intOf]; omega⟩
          · rw [decide_eq_false ht]
            clear ht
            go_wp2_with fail
            refine (of_any _ _).mono ?_
            rintro e v8 ⟨rfl, rfl⟩
            have hnk := HNX.out.1
            have hnk2 := HNX.out.2
            generalize Ft.ofK xe = K' at *
            generalize Ft.ofN xe = K2 at *
            go_wp2_with fail
            refine (ol_next L HKv4.out.one GX.out.1.good (by omega)).mono ?_
            rintro e v9 ⟨rfl, hbn⟩
            have HKv9 := Lib.hid (HKv4.out.on hbn)
            clear hbn HKv4
            generalize La.next x = nx' at *
            go_wp2
            exact ⟨⟨j + 1, by omega, by go_num, HKv9⟩, by simp [intOf]; omega⟩
        · have q0 : (xk == 1) = false := by simp [k2]
          clear k1 k2
          go_wp2_with fail
          refine (ol_aborted L HK.out.one GX.out.1.good (by omega) xe M).mono ?_
          rintro e v4 ⟨rfl, hbn⟩
          have HKv4 := Lib.hid (HK.out.on hbn)
          clear hbn HK
          by_cases ht : La.aborted x xe M
          · rw [decide_eq_true ht]
            have HT := Lib.hid (HMA.out ht)
            clear ht
            go_wp2_with fail
            refine (ol_aborted L HKv4.out.two GX.out.2.good (by omega) xe M).mono ?_
            rintro e v6 ⟨rfl, hbn⟩
            have HKv6 := Lib.hid (HKv4.out.on hbn)
            clear hbn HKv4
            rw [decide_eq_true HT.out]
            go_wp2_with fail
            refine (of_any _ _).mono ?_
            rintro e v8 ⟨rfl, rfl⟩
            have hnk := HNX.out.1
            have hnk2 := HNX.out.2
            generalize Ft.ofK xe = K' at *
            generalize Ft.ofN xe = K2 at *
            go_wp2_with fail
            refine (ol_next L HKv6.out.one GX.out.1.good (by omega)).mono ?_
            rintro e v9 ⟨rfl, hbn⟩
            have HKv9 := Lib.hid (HKv6.out.on hbn)
            clear hbn HKv6
            generalize La.next x = nx' at *
            go_wp2
            exact ⟨⟨j + 1, by omega, by go_num, HKv9⟩, by simp [intOf]; omega⟩
          · rw [decide_eq_false ht]
            clear ht
            go_wp2_with fail
            refine (of_any _ _).mono ?_
            rintro e v8 ⟨rfl, rfl⟩
            have hnk := HNX.out.1
            have hnk2 := HNX.out.2
            generalize Ft.ofK xe = K' at *
            generalize Ft.ofN xe = K2 at *
            go_wp2_with fail
            refine (ol_next L HKv4.out.one GX.out.1.good (by omega)).mono ?_
            rintro e v9 ⟨rfl, hbn⟩
            have HKv9 := Lib.hid (HKv4.out.on hbn)
            clear hbn HKv4
            generalize La.next x = nx' at *
            go_wp2
            exact ⟨⟨j + 1, by omega, by go_num, HKv9⟩, by simp [intOf]; omega⟩
  · have z0 : (bs != 0) = true := by simp [hz0]
    obtain ⟨⟨o, ho⟩, hna⟩ := HB0.out hz0
    have HNA := Lib.hid (And.intro ho hna)
    clear hz0 ho hna HB0
    go_wp2_with fail
    refine (ol_mani L HKv2.out.one GX.out.1.good (by omega) GX.out.1.few bs).mono ?_
    rintro e v3 ⟨⟨Q1, rfl, hm1⟩, hb3⟩
    rw [HNA.out.1] at hm1
    rw [HNA.out.1]
    obtain ⟨P1, e1, hs1, ha1⟩ := mv_agg hm1
    injection e1 with e1
    subst e1
    have HKu := Lib.hid ((HKv2.out.on hb3).on (put_below (T := 28) (z := (mcs 0 0 (.slice none 0 0) (zs 32)).toArray) (N := Q1) (Below.refl _ _) (Nat.le_refl _)))
    clear hm1 hb3 HKv2
    go_upto_region 9 with (first | ((with_reducible show wpList _ _ _ ((⟨_, Op.store 28 (.tmp 13) _, _, _, _, _⟩ : Oper) :: _) _ _); rw [zeroM]; refine wpList_store_row rfl _ (.tmp 13) (.tmp 40) rfl v3.heap.size Q1 rfl rfl 28 _ (Whole.new v3 _ _) (by rw [hs1]; exact info35) (by rw [hs1]; rfl) ha1 ?_) | fail)
    generalize v3.heap.size = g1 at *
    generalize (v3.alloc (.cells (mcs 0 0 (.slice none 0 0) (zs 32)).toArray 28)).setRow g1 Q1 = u at *
    go_wp2_with fail
    refine (ol_aborted L HKu.out.one GX.out.1.good (by omega) bs M).mono ?_
    rintro e v4 ⟨rfl, hbn⟩
    have HKv4 := Lib.hid (HKu.out.on hbn)
    clear hbn HKu
    rw [decide_eq_false HNA.out.2]
    go_wp2
    go_loopw [15, 16, 17, 18] (fun i _ _ _ wr => ∃ j : Nat, j ≤ nx ∧ i = .int .i64 (j : Int) ∧ Hid (Two w wr ax nx cx x az nz cz z)) (fun i _ _ _ _ => nx - (intOf i).toNat)
    case atStart => exact ⟨0, Nat.zero_le _, rfl, HKv4⟩
    case round =>
      obtain ⟨j, hj, rfl, HK⟩ := hrel
      by_cases hlt : j < nx
      case neg =>
        have q : ¬ ((j : Int) < (nx : Int)) := by omega
        go_wp2_with fail
        refine (ol_next L HK.out.two GX.out.2.good (by omega)).mono ?_
        rintro e v4 ⟨rfl, hbn⟩
        have HKv4 := Lib.hid (HK.out.on hbn)
        clear hbn HK
        go_wp2_with fail
        refine (ol_next L HKv4.out.one GX.out.1.good (by omega)).mono ?_
        rintro e v5 ⟨rfl, hbn⟩
        have HKv5 := Lib.hid (HKv4.out.on hbn)
        clear hbn HKv4
        have hmore := HMO.out
        generalize La.next z = nz' at *
        generalize La.next x = nx' at *
        go_wp2
        go_ret
        exact ⟨rfl, HKv5.out.below⟩
      have q : (j : Int) < (nx : Int) := by omega
      obtain ⟨b, off, M', rfl, hbl, hrg, hrw⟩ := HK.out.one.at_ hlt
      have hmem : x.getD j Ft.nought ∈ x := getD_mem (by have := HK.out.one.len; omega)
      generalize x.getD j Ft.nought = y at *
      have HNX : Hid (Ft.ofK y.epoch < La.next x ∧ 0 ≤ Ft.ofK y.epoch) := Lib.hid ⟨La.next_above hmem, (La.ofK_in _).1⟩
      have HBS : Hid (y.kind = 1 → ¬ La.aborted x y.epoch M → y.epoch ≤ bs) := Lib.hid (by have := (La.best_is x M).2 y hmem; rwa [HBE.out] at this)
      have HMA : Hid (La.aborted x y.epoch M → La.aborted z y.epoch M) := Lib.hid (HAM.out _)
      obtain ⟨xk, xe, xn, xm⟩ := y
      have c0 : wr.cell? ⟨b, off + j * 38, none⟩ = some (.int .i64 xk) := range_c0 hrg
      have c1 : wr.cell? ⟨b, off + j * 38 + 1, none⟩ = some (.int .i64 xe) := range_c1 hrg
      clear hrg hrw hmem hbl
      by_cases k1 : xk = 1 ∧ bs < xe
      · obtain ⟨k1, k2⟩ := k1
        have q0 : (xk == 1) = true := by simp [k1]
        have HT : Hid (La.aborted x xe M) := Lib.hid (Decidable.byContradiction fun hno => by have h9 : xe ≤ bs := HBS.out k1 hno; omega)
        clear k1
        go_wp2_with fail
        refine (ol_aborted L HK.out.one GX.out.1.good (by omega) xe M).mono ?_
        rintro e v4 ⟨rfl, hbn⟩
        have HKv4 := Lib.hid (HK.out.on hbn)
        clear hbn HK
        rw [decide_eq_true HT.out]
        go_wp2_with fail
        refine (ol_aborted L HKv4.out.one GX.out.1.good (by omega) xe M).mono ?_
        rintro e v5 ⟨rfl, hbn⟩
        have HKv5 := Lib.hid (HKv4.out.on hbn)
        clear hbn HKv4
        rw [decide_eq_true HT.out]
        go_wp2_with fail
        refine (ol_aborted L HKv5.out.two GX.out.2.good (by omega) xe M).mono ?_
        rintro e v6 ⟨rfl, hbn⟩
        have HKv6 := Lib.hid (HKv5.out.on hbn)
        clear hbn HKv5
        rw [decide_eq_true (HMA.out HT.out)]
        go_wp2_with fail
        refine (of_any _ _).mono ?_
        rintro e v8 ⟨rfl, rfl⟩
        have hnk := HNX.out.1
        have hnk2 := HNX.out.2
        generalize Ft.ofK xe = K' at *
        generalize Ft.ofN xe = K2 at *
        go_wp2_with fail
        refine (ol_next L HKv6.out.one GX.out.1.good (by omega)).mono ?_
        rintro e v9 ⟨rfl, hbn⟩
        have HKv9 := Lib.hid (HKv6.out.on hbn)
        clear hbn HKv6
        generalize La.next x = nx' at *
        go_wp2
        exact ⟨⟨j + 1, by omega, by go_num, HKv9⟩, by simp [intOf]; omega⟩
      · by_cases k2 : xk = 1
        · have q0 : (xk == 1) = true := by simp [k2]
          have q1 : ¬ bs < xe := fun h => k1 ⟨k2, h⟩
          clear k1 k2
          go_wp2_with fail
          refine (ol_aborted L HK.out.one GX.out.1.good (by omega) xe M).mono ?_
          rintro e v4 ⟨rfl, hbn⟩
          have HKv4 := Lib.hid (HK.out.on hbn)
          clear hbn HK
          by_cases ht : La.aborted x xe M
          · rw [decide_eq_true ht]
            have HT := Lib.hid (HMA.out ht)
            clear ht
            go_wp2_with fail
            refine (ol_aborted L HKv4.out.two GX.out.2.good (by omega) xe M).mono ?_
            rintro e v6 ⟨rfl, hbn⟩
            have HKv6 := Lib.hid (HKv4.out.on hbn)
            clear hbn HKv4
            rw [decide_eq_true HT.out]
            go_wp2_with fail
            refine (of_any _ _).mono ?_
            rintro e v8 ⟨rfl, rfl⟩
            have hnk := HNX.out.1
            have hnk2 := HNX.out.2
            generalize Ft.ofK xe = K' at *
            generalize Ft.ofN xe = K2 at *
            go_wp2_with fail
            refine (ol_next L HKv6.out.one GX.out.1.good (by omega)).mono ?_
            rintro e v9 ⟨rfl, hbn⟩
            have HKv9 := Lib.hid (HKv6.out.on hbn)
            clear hbn HKv6
            generalize La.next x = nx' at *
            go_wp2
            exact ⟨⟨j + 1, by omega, by go_num, HKv9⟩, by simp [intOf]; omega⟩
          · rw [decide_eq_false ht]
            clear ht
            go_wp2_with fail
            refine (of_any _ _).mono ?_
            rintro e v8 ⟨rfl, rfl⟩
            have hnk := HNX.out.1
            have hnk2 := HNX.out.2
            generalize Ft.ofK xe = K' at *
            generalize Ft.ofN xe = K2 at *
            go_wp2_with fail
            refine (ol_next L HKv4.out.one GX.out.1.good (by omega)).mono ?_
            rintro e v9 ⟨rfl, hbn⟩
            have HKv9 := Lib.hid (HKv4.out.on hbn)
            clear hbn HKv4
            generalize La.next x = nx' at *
            go_wp2
            exact ⟨⟨j + 1, by omega, by go_num, HKv9⟩, by simp [intOf]; omega⟩
        · have q0 : (xk == 1) = false := by simp [k2]
          clear k1 k2
          go_wp2_with fail
          refine (ol_aborted L HK.out.one GX.out.1.good (by omega) xe M).mono ?_
          rintro e v4 ⟨rfl, hbn⟩
          have HKv4 := Lib.hid (HK.out.on hbn)
          clear hbn HK
          by_cases ht : La.aborted x xe M
          · rw [decide_eq_true ht]
            have HT := Lib.hid (HMA.out ht)
            clear ht
            go_wp2_with fail
            refine (ol_aborted L HKv4.out.two GX.out.2.good (by omega) xe M).mono ?_
            rintro e v6 ⟨rfl, hbn⟩
            have HKv6 := Lib.hid (HKv4.out.on hbn)
            clear hbn HKv4
            rw [decide_eq_true HT.out]
            go_wp2_with fail
            refine (of_any _ _).mono ?_
            rintro e v8 ⟨rfl, rfl⟩
            have hnk := HNX.out.1
            have hnk2 := HNX.out.2
            generalize Ft.ofK xe = K' at *
            generalize Ft.ofN xe = K2 at *
            go_wp2_with fail
            refine (ol_next L HKv6.out.one GX.out.1.good (by omega)).mono ?_
            rintro e v9 ⟨rfl, hbn⟩
            have HKv9 := Lib.hid (HKv6.out.on hbn)
            clear hbn HKv6
            generalize La.next x = nx' at *
            go_wp2
            exact ⟨⟨j + 1, by omega, by go_num, HKv9⟩, by simp [intOf]; omega⟩
          · rw [decide_eq_false ht]
            clear ht
            go_wp2_with fail
            refine (of_any _ _).mono ?_
            rintro e v8 ⟨rfl, rfl⟩
            have hnk := HNX.out.1
            have hnk2 := HNX.out.2
            generalize Ft.ofK xe = K' at *
            generalize Ft.ofN xe = K2 at *
            go_wp2_with fail
            refine (ol_next L HKv4.out.one GX.out.1.good (by omega)).mono ?_
            rintro e v9 ⟨rfl, hbn⟩
            have HKv9 := Lib.hid (HKv4.out.on hbn)
            clear hbn HKv4
            generalize La.next x = nx' at *
            go_wp2
            exact ⟨⟨j + 1, by omega, by go_num, HKv9⟩, by simp [intOf]; omega⟩
end Go.Proofs.Ytdfmfjahnnifnaa
