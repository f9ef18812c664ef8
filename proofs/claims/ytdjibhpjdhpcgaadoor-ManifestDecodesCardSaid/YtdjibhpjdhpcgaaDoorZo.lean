/-
  The walk of Encode.
  The walk of the document's Encode.
  The walk of the document's Same, where both are the same manifest.
  The walks of chunksOf, and of the closure that it makes.
-/
import Derived.Test.YtdjibhpjdhpcgaaDoorZn
import Derived.Test.YtdjibhpjdhpcgaaDoorZr
namespace Go.Proofs.YtdjibhpjdhpcgaaDoor
set_option maxRecDepth 20000
set_option linter.unusedSimpArgs false
open Go.RowKit
/-- What Encode answers. -/
def Encd (w : World) (m : Mf.Man) (e : Ending) (w' : World) : Prop :=
  ((m.bad ∧ e = .returned (.tuple #[.slice none 0 0, .int .i64 50])) ∨
    (¬ m.bad ∧ ∃ a n c, e = .returned (.tuple #[.slice a n c, .int .i64 0]) ∧ Txt w' (w.heap.size ≤ ·) a n c (Mf.body m))) ∧ Below w.heap.size w w'
theorem good_in {m : Mf.Man} (h : ¬ m.bad) : 1 ≤ m.size ∧ m.size ≤ 65536 ∧ 1 ≤ m.chunk ∧ m.chunk ≤ 4096 ∧ m.ds.length ≤ 64 := by
  have hn : Mf.cnt m.size m.chunk ≠ 0 := fun e => h (Or.inl e)
  have hl : m.ds.length = Mf.cnt m.size m.chunk := Decidable.byContradiction fun e => h (Or.inr e)
  obtain ⟨h1, h2, h3, h4⟩ := Mf.cnt_in hn
  exact ⟨h1, h2, h3, h4, by rw [hl]; exact Mf.cnt_le _ _⟩
set_option maxHeartbeats 2000000 in
theorem encode_any {w : World} {S : Nat → Prop} {v : Value} {m : Mf.Man} (h : Mv w S v m) :
    Calls Tryd.prog 16 #[v] w (Encd w m) := by
  have HM := Lib.hid h
  obtain ⟨a, n, c, rfl, hnc, hd, hw, hs, hc⟩ := h
  have HWH := Lib.hid hw
  have HLN := Lib.hid hd.1
  have HDG := Lib.hid hd.old
  have hsz := msize (s := m.size) (c := m.chunk) (v := .slice a n c) hw.1
  have c0 : (mcs m.size m.chunk (.slice a n c) m.wh).toArray[0]? = some (.int .i64 m.size) := rfl
  have c1 : (mcs m.size m.chunk (.slice a n c) m.wh).toArray[1]? = some (.int .i64 m.chunk) := rfl
  have c2 : (mcs m.size m.chunk (.slice a n c) m.wh).toArray[2]? = some (.slice a n c) := rfl
  have ct := Lib.hid (mcs_tail (s := m.size) (c := m.chunk) (x := .slice a n c) (h := m.wh))
  clear hd hw hs hc hnc
  generalize (mcs m.size m.chunk (.slice a n c) m.wh).toArray = P at *
  have HC := Lib.hid (show Mv (w.alloc (.cells P 27)) (fun b => b < w.heap.size) (.agg P) m from HM.out.old.keep (by simp) fun b hb _ => Below.heap_alloc _ _ _ hb)
  by_cases hbad : m.bad
  · have hk : Mf.chk m = 50 := by unfold Mf.chk; rw [if_pos hbad]
    have HK := Lib.hid hk
    clear hk
    go_enter Tryd.func16, Tryd.ntmps16
    go_wp2_with (first | ((with_reducible show wpList _ _ _ ((⟨_, Op.load 27 _, _, _, _, _⟩ : Oper) :: _) _ _); refine wpList_load_row rfl _ (.tmp 1) rfl w.heap.size rfl 27 P (0, 0) _ (Whole.new w _ _) Tryd.underlying27 rfl (by rw [hsz]; exact info35) ?_) | (go_at_call 23; refine (check_any HC.out).mono ?_; rintro e w1 ⟨rfl, hb1⟩; have HB1 := Lib.hid (below_box hb1); clear hb1; rw [HK.out]))
    go_ret2
    exact ⟨Or.inl ⟨hbad, rfl⟩, HB1.out⟩
  · have HK := Lib.hid (Mf.chk_zero hbad)
    obtain ⟨hs0, hs1, hc0, hc1, hn64⟩ := good_in hbad
    rw [HLN.out] at hn64
    have HNB := Lib.hid hbad
    clear hbad
    obtain ⟨sz, esz⟩ : ∃ sz, m.size = sz := ⟨_, rfl⟩
    obtain ⟨ch, ech⟩ : ∃ ch, m.chunk = ch := ⟨_, rfl⟩
    have HBODY : Hid (Mf.body m = Cd.num sz ++ (Cd.num ch ++ (m.ds.flatten ++ m.wh))) := Lib.hid (by unfold Mf.body; rw [esz, ech])
    rw [esz] at c0 hs0 hs1
    rw [ech] at c1 hc0 hc1
    clear esz ech
    go_enter Tryd.func16, Tryd.ntmps16
    go_wp2_with (first | ((with_reducible show wpList _ _ _ ((⟨_, Op.load 27 _, _, _, _, _⟩ : Oper) :: _) _ _); refine wpList_load_row rfl _ (.tmp 1) rfl w.heap.size rfl 27 P (0, 0) _ (Whole.new w _ _) Tryd.underlying27 rfl (by rw [hsz]; exact info35) ?_) | (go_at_call 23; refine (check_any HC.out).mono ?_; rintro e w1 ⟨rfl, hb1⟩; have HB1 := Lib.hid (below_box hb1); have KW := Lib.hid ((Whole.new w 27 P).below hb1 (by simp)); clear hb1; rw [HK.out]; have k0 : w1.cell? ⟨w.heap.size, 0, none⟩ = some (.int .i64 sz) := (by rw [KW.out.cell]; exact c0); have hlt1 : w.heap.size < w1.heap.size := KW.out.lt))
    have hw2 : Co.Wr (w1.alloc (Obj.cells #[Value.pointer none, Value.int IntKind.i64 0] 57)) w1.heap.size w1.heap.size [] := ⟨Nat.le_refl _, Or.inl ⟨rfl, Whole.new _ _ _⟩⟩
    refine (Co.int_any sz (by rw [size_alloc]; omega) hw2 (by simp) (by omega) (by omega)).mono ?_
    rintro e w3 ⟨rfl, hw3, hb3⟩
    have HW3 := Lib.hid hw3
    have HB13 := Lib.hid (show Below w1.heap.size w1 w3 from (below_alloc w1 _).trans hb3)
    have k1 : w3.cell? ⟨w.heap.size, 1, none⟩ = some (.int .i64 ch) := by rw [HB13.out.cell (p := ⟨w.heap.size, 1, none⟩) hlt1, KW.out.cell]; exact c1
    have hlt3 : w1.heap.size ≤ w3.heap.size := HB13.out.size
    have hl1 : (Cd.num sz).length ≤ 10 := Cd.num_len (by omega) (by omega)
    have hl2 : (Cd.num ch).length ≤ 10 := Cd.num_len (by omega) (by omega)
    clear hw2 hw3 hb3 k0
    have HL := Lib.hid (And.intro hl1 hl2)
    clear hl1 hl2
    go_wp2_with fail
    refine (Co.int_any ch hlt3 HW3.out (by have := HL.out; simp; omega) (by omega) (by omega)).mono ?_
    rintro e w4 ⟨rfl, hw4, hb4⟩
    have HW4 := Lib.hid hw4
    have HB14 := Lib.hid (show Below w1.heap.size w1 w4 from HB13.out.trans hb4)
    have k2 : w4.cell? ⟨w.heap.size, 2, none⟩ = some (.slice a n c) := by rw [HB14.out.cell (p := ⟨w.heap.size, 2, none⟩) hlt1, KW.out.cell]; exact c2
    clear hw4 hb4 k1 HW3 HB13 hlt3
    go_wp2
    go_loopw [26] (fun i wr => ∃ k : Nat, k ≤ n ∧ i = .int .i64 (k : Int) ∧ Hid (Co.Wr wr w1.heap.size w1.heap.size (([] ++ Cd.num sz ++ Cd.num ch) ++ (m.ds.take k).flatten) ∧ Below w1.heap.size w1 wr)) (fun i _ => n - (intOf i).toNat)
    case atStart => exact ⟨0, Nat.zero_le _, rfl, Lib.hid ⟨by simpa using HW4.out, HB14.out⟩⟩
    case round =>
      obtain ⟨k, hk, rfl, HK4⟩ := hrel
      by_cases hlt : k < n
      · obtain ⟨b, off, rfl, hbS, hbl, hrg, hdg⟩ := HDG.out.cell_at hlt
        have HBW := Lib.hid (HB1.out.trans (HK4.out.2.mono HB1.out.size))
        have HRG := Lib.hid (range_below hrg HBW.out hbl)
        have HFS := Lib.hid (flat_snoc m.ds k (by rw [HLN.out]; exact hlt))
        generalize m.ds.getD k [] = d at *
        have hnd : (nums d).length = 32 := by rw [nums_len, hdg.1]
        have hda : (nums d).toArray.size = 32 := by rw [List.size_toArray, hnd]
        have hall := all_nums d
        have HDD := Lib.hid hdg
        have hz0 : w1.heap.size ≤ wr.heap.size := HK4.out.2.size
        have HLF : Hid ((m.ds.take k).flatten.length ≤ 3000) := Lib.hid (by
          have h1 := Mf.flatten_len (ds := m.ds.take k) (fun d hd => HDG.out.2.1 d (List.mem_of_mem_take hd))
          rw [h1, List.length_take]; omega)
        clear hrg hdg
        go_wp2_with (first
          | ((with_reducible show wpList _ _ _ ((⟨_, Op.load 25 (.tmp 28), _, _, _, _⟩ : Oper) :: _) _ _); refine wpList_load_mid rfl _ (.tmp 28) rfl b (off + k * 32) rfl (nums d) _ HRG.out und32 rfl (by rw [hnd]; exact info32) ?_)
          | ((with_reducible show wpList _ _ _ ((⟨_, Op.store 25 _ _, _, _, _, _⟩ : Oper) :: _) _ _); refine wpList_store_row rfl _ (.tmp 7) (.tmp 29) rfl wr.heap.size _ rfl rfl 25 _ (Whole.new wr _ _) (by rw [hda]; exact info32) (by rw [hda]; rfl) hall ?_)
          | ((with_reducible show wpList _ _ _ ((⟨_, Op.load 25 (.tmp 7), _, _, _, _⟩ : Oper) :: _) _ _); refine wpList_load_row rfl _ (.tmp 7) rfl wr.heap.size rfl 25 (nums d).toArray (0, 0) _ put_row und32 rfl (by rw [hda]; exact info32) ?_))
        have hbp : Below wr.heap.size wr ((wr.alloc (.cells #[Value.int IntKind.u8 0, Value.int IntKind.u8 0, Value.int IntKind.u8 0, Value.int IntKind.u8 0, Value.int IntKind.u8 0, Value.int IntKind.u8 0, Value.int IntKind.u8 0, Value.int IntKind.u8 0, Value.int IntKind.u8 0, Value.int IntKind.u8 0, Value.int IntKind.u8 0, Value.int IntKind.u8 0, Value.int IntKind.u8 0, Value.int IntKind.u8 0, Value.int IntKind.u8 0, Value.int IntKind.u8 0, Value.int IntKind.u8 0, Value.int IntKind.u8 0, Value.int IntKind.u8 0, Value.int IntKind.u8 0, Value.int IntKind.u8 0, Value.int IntKind.u8 0, Value.int IntKind.u8 0, Value.int IntKind.u8 0, Value.int IntKind.u8 0, Value.int IntKind.u8 0, Value.int IntKind.u8 0, Value.int IntKind.u8 0, Value.int IntKind.u8 0, Value.int IntKind.u8 0, Value.int IntKind.u8 0, Value.int IntKind.u8 0] 25)).setRow wr.heap.size (nums d).toArray) := put_below (Below.refl _ _) (Nat.le_refl _)
        refine (Co.hash_any (by have := hbp.size; omega) (HK4.out.1.below hbp) HDD.out.1 HDD.out.2 (by have h1 := HL.out; have h2 := HLF.out; simp only [List.length_append, List.length_nil]; omega)).mono ?_
        rintro e w5 ⟨rfl, hw5, hb5⟩
        have H5 := Lib.hid (And.intro hw5 (HK4.out.2.trans ((hbp.mono hz0).trans hb5)))
        clear hw5 hb5 hbp
        go_wp2
        exact ⟨⟨k + 1, by omega, by go_num, Lib.hid ⟨by rw [HFS.out, ← List.append_assoc]; exact H5.out.1, H5.out.2⟩⟩, by simp [intOf]; omega⟩
      · obtain rfl : k = n := by omega
        have HBW := Lib.hid (HB1.out.trans (HK4.out.2.mono HB1.out.size))
        have hrg : wr.rangeAt w.heap.size 3 (nums m.wh) := range_below (tail_range KW.out ct.out) HK4.out.2 hlt1
        have HRG := Lib.hid hrg
        have hnd : (nums m.wh).length = 32 := by rw [nums_len, HWH.out.1]
        have HLF : Hid ((m.ds.take k).flatten.length ≤ 3000) := Lib.hid (by
          have h1 := Mf.flatten_len (ds := m.ds.take k) (fun d hd => HDG.out.2.1 d (List.mem_of_mem_take hd))
          rw [h1, List.length_take]; omega)
        have hz0 : w1.heap.size ≤ wr.heap.size := HK4.out.2.size
        clear hrg
        go_wp2_with ((with_reducible show wpList _ _ _ ((⟨_, Op.load 25 _, _, _, _, _⟩ : Oper) :: _) _ _); refine wpList_load_mid rfl _ (.tmp 35) rfl w.heap.size 3 rfl (nums m.wh) _ HRG.out und32 rfl (by rw [hnd]; exact info32) ?_)
        refine (Co.hash_any hz0 HK4.out.1 HWH.out.1 HWH.out.2 (by have h1 := HL.out; have h2 := HLF.out; simp only [List.length_append, List.length_nil]; omega)).mono ?_
        rintro e w5 ⟨rfl, hw5, hb5⟩
        have hbe : [] ++ Cd.num sz ++ Cd.num ch ++ (m.ds.take k).flatten ++ m.wh = Mf.body m := by
          rw [HBODY.out, List.take_of_length_le (by rw [HLN.out]; omega)]
          simp
        rw [hbe] at hw5
        have hby : Byt (Mf.body m) := by
          rw [HBODY.out]
          exact byt_append (Cd.byt_num sz) (byt_append (Cd.byt_num ch) (byt_append (Mf.byt_flatten HDG.out.2.1) HWH.out.2))
        have hlb : (Mf.body m).length ≤ 5000 := by
          rw [← hbe]
          have h1 := HL.out; have h2 := HLF.out
          simp only [List.length_append, List.length_nil, HWH.out.1]; omega
        have H5 := Lib.hid (And.intro hw5 (And.intro (HBW.out.trans (hb5.mono (by have := HB1.out.size; omega))) (And.intro hby hlb)))
        clear hw5 hb5 hbe hby hlb
        go_wp2_with fail
        refine (Co.bytes_any H5.out.1 H5.out.2.2.1 (by have := H5.out.2.2.2; omega)).mono ?_
        rintro e w6 ⟨v6, rfl, hown, hb6⟩
        obtain ⟨a6, c6, rfl, ht6⟩ := Txt.own hown H5.out.2.2.1
        have H6 := Lib.hid (And.intro (ht6.weak (S' := (w.heap.size ≤ ·)) (fun b _ h => Nat.le_trans H5.out.2.1.size h)) (H5.out.2.1.trans (hb6.mono H5.out.2.1.size)))
        clear hown hb6 ht6
        go_wp2
        go_ret2
        exact ⟨Or.inr ⟨HNB.out, _, _, _, rfl, H6.out.1⟩, H6.out.2⟩
end Go.Proofs.YtdjibhpjdhpcgaaDoor
namespace Go.Proofs.YtdjibhpjdhpcgaaDoor
set_option maxRecDepth 20000
set_option linter.unusedSimpArgs false
open Go.RowKit
theorem txt_range {w : World} {S : Nat → Prop} {b o : Nat} {d : List Int} (hS : S b) (hlt : b < w.heap.size) (h : w.rangeAt b o (nums d)) (hd : Dig d) : Txt w S (some ⟨b, o, none⟩) 32 32 d :=
  ⟨hd.1, Nat.le_refl _, hd.2, Or.inr ⟨b, o, rfl, hS, hlt, fun k hk => h k _ (nums_get d k (by rw [hd.1]; exact hk))⟩⟩
theorem slice_32 (b o : Nat) (w : World) : (Instr.sliceAt 25 (.pointer (some ⟨b, o, none⟩)) none none none).run Tryd.prog w = .ok (.slice (some ⟨b, o, none⟩) 32 32) w := by
  simp [Instr.sliceAt, Instr.sureAddr, run_underlying und32, sz_u8, Instr.sliceBounds, Instr.sliceBound, Addr.add_lit]
theorem own_lt {w : World} {base e size n : Nat} {v : Value} {xs : List Value} (h : w.ownsRow base e size v n xs) : ∀ b, v.ownBlock = some b → b < w.heap.size := by
  intro b hb
  rcases h.2 with ⟨rfl, _⟩ | ⟨g, cap, cur, rfl, _, hg, _⟩
  · cases hb
  · injection hb with hb
    subst hb
    exact (Array.getElem?_eq_some_iff.1 hg).1
theorem own_ge {w : World} {base e size n : Nat} {v : Value} {xs : List Value} (h : w.ownsRow base e size v n xs) : ∀ b, v.ownBlock = some b → base ≤ b := by
  intro b hb
  rcases h.2 with ⟨rfl, _⟩ | ⟨g, cap, cur, rfl, hg, _⟩
  · cases hb
  · injection hb with hb
    subst hb
    exact hg
set_option maxHeartbeats 2000000 in
theorem rencode_any {w : World} {S : Nat → Prop} {v : Value} {m : Mf.Man} (h : Mv w S v m) :
    Calls Tryd.prog 17 #[v] w (Encd w m) := by
  have HM := Lib.hid h
  obtain ⟨j0, hj0, hz0, hz1, hz2⟩ := info_parts u8_info
  have HI := Lib.hid (And.intro hj0 (And.intro hz0 (And.intro hz1 hz2)))
  clear hj0 hz0 hz1 hz2
  obtain ⟨a, n, c, rfl, hnc, hd, hw, hs, hc⟩ := h
  have HWH := Lib.hid hw
  have HLN := Lib.hid hd.1
  have HDG := Lib.hid hd.old
  have hsz := msize (s := m.size) (c := m.chunk) (v := .slice a n c) hw.1
  have c0 : (mcs m.size m.chunk (.slice a n c) m.wh).toArray[0]? = some (.int .i64 m.size) := rfl
  have c1 : (mcs m.size m.chunk (.slice a n c) m.wh).toArray[1]? = some (.int .i64 m.chunk) := rfl
  have c2 : (mcs m.size m.chunk (.slice a n c) m.wh).toArray[2]? = some (.slice a n c) := rfl
  have ct := Lib.hid (mcs_tail (s := m.size) (c := m.chunk) (x := .slice a n c) (h := m.wh))
  clear hd hw hs hc hnc
  generalize (mcs m.size m.chunk (.slice a n c) m.wh).toArray = P at *
  have HC := Lib.hid (show Mv (w.alloc (.cells P 27)) (fun b => b < w.heap.size) (.agg P) m from HM.out.old.keep (by simp) fun b hb _ => Below.heap_alloc _ _ _ hb)
  by_cases hbad : m.bad
  · have hk : Mf.chk m = 50 := by unfold Mf.chk; rw [if_pos hbad]
    have HK := Lib.hid hk
    clear hk
    go_enter Tryd.func17, Tryd.ntmps17
    go_wp2_with (first | ((with_reducible show wpList _ _ _ ((⟨_, Op.load 27 _, _, _, _, _⟩ : Oper) :: _) _ _); refine wpList_load_row rfl _ (.tmp 1) rfl w.heap.size rfl 27 P (0, 0) _ (Whole.new w _ _) Tryd.underlying27 rfl (by rw [hsz]; exact info35) ?_) | (go_at_call 24; refine (rcheck_any HC.out).mono ?_; rintro e w1 ⟨rfl, hb1⟩; have HB1 := Lib.hid (below_box hb1); clear hb1; rw [HK.out]))
    go_ret2
    exact ⟨Or.inl ⟨hbad, rfl⟩, HB1.out⟩
  · have HK := Lib.hid (Mf.chk_zero hbad)
    obtain ⟨hs0, hs1, hc0, hc1, hn64⟩ := good_in hbad
    rw [HLN.out] at hn64
    have HNB := Lib.hid hbad
    clear hbad
    obtain ⟨sz, esz⟩ : ∃ sz, m.size = sz := ⟨_, rfl⟩
    obtain ⟨ch, ech⟩ : ∃ ch, m.chunk = ch := ⟨_, rfl⟩
    have HBODY : Hid (Mf.body m = Cd.num sz ++ (Cd.num ch ++ (m.ds.flatten ++ m.wh))) := Lib.hid (by unfold Mf.body; rw [esz, ech])
    rw [esz] at c0 hs0 hs1
    rw [ech] at c1 hc0 hc1
    clear esz ech
    have hl1 : (Cd.num sz).length ≤ 10 := Cd.num_len (by omega) (by omega)
    have hl2 : (Cd.num ch).length ≤ 10 := Cd.num_len (by omega) (by omega)
    have HL := Lib.hid (And.intro hl1 hl2)
    clear hl1 hl2
    go_enter Tryd.func17, Tryd.ntmps17
    go_wp2_with (first | ((with_reducible show wpList _ _ _ ((⟨_, Op.load 27 _, _, _, _, _⟩ : Oper) :: _) _ _); refine wpList_load_row rfl _ (.tmp 1) rfl w.heap.size rfl 27 P (0, 0) _ (Whole.new w _ _) Tryd.underlying27 rfl (by rw [hsz]; exact info35) ?_) | (go_at_call 24; refine (rcheck_any HC.out).mono ?_; rintro e w1 ⟨rfl, hb1⟩; have HB1 := Lib.hid (below_box hb1); have KW := Lib.hid ((Whole.new w 27 P).below hb1 (by simp)); clear hb1; rw [HK.out]; have hlt1 : w.heap.size < w1.heap.size := KW.out.lt))
    have HBD := Lib.hid (show Below w.heap.size w w1.drew from HB1.out.drew)
    have KWD := Lib.hid (show Whole w1.drew w.heap.size 27 P from KW.out)
    have hltD : w.heap.size < w1.drew.heap.size := hlt1
    refine wp_region_held_drew (S := fun w' => w'.cell? ⟨w.heap.size, 0, none⟩ = some (.int .i64 sz) ∧ w'.cell? ⟨w.heap.size, 1, none⟩ = some (.int .i64 ch)) (by kernel_rfl) ⟨by rw [KWD.out.cell]; exact c0, by rw [KWD.out.cell]; exact c1⟩ (fun hHeld => ?_)
    generalize w1.drew = v0 at *
    refine wpAnyH_take (i := 0) (v := .pointer (some ⟨w.heap.size, 0, none⟩)) rfl (by kernel_rfl) (by kernel_rfl) (by kernel_rfl) (fun _ _ _ h => h) (Or.inl ⟨by rfl, (by intro w hSw; (try dsimp only at hSw); go_simp)⟩) (by assumption) ?_
    try simp only [Act.put, List.getElem_toArray, List.getElem_cons_zero, List.getElem_cons_succ, List.setIfInBounds_toArray, List.set_cons_zero, List.set_cons_succ]
    refine wpAnyH_take (i := 1) (v := .int .i64 sz) rfl (by kernel_rfl) (by kernel_rfl) (by kernel_rfl) (fun _ _ _ h => h) (Or.inl ⟨by rfl, (by intro w hSw; (try dsimp only at hSw); go_simp)⟩) (by assumption) ?_
    try simp only [Act.put, List.getElem_toArray, List.getElem_cons_zero, List.getElem_cons_succ, List.setIfInBounds_toArray, List.set_cons_zero, List.set_cons_succ]
    refine wpAnyH_take (i := 3) (v := .pointer (some ⟨w.heap.size, 1, none⟩)) rfl (by kernel_rfl) (by kernel_rfl) (by kernel_rfl) (fun _ _ _ h => h) (Or.inl ⟨by rfl, (by intro w hSw; (try dsimp only at hSw); go_simp)⟩) (by assumption) ?_
    try simp only [Act.put, List.getElem_toArray, List.getElem_cons_zero, List.getElem_cons_succ, List.setIfInBounds_toArray, List.set_cons_zero, List.set_cons_succ]
    refine wpAnyH_take (i := 4) (v := .int .i64 ch) rfl (by kernel_rfl) (by kernel_rfl) (by kernel_rfl) (fun _ _ _ h => h) (Or.inl ⟨by rfl, (by intro w hSw; (try dsimp only at hSw); go_simp)⟩) (by assumption) ?_
    try simp only [Act.put, List.getElem_toArray, List.getElem_cons_zero, List.getElem_cons_succ, List.setIfInBounds_toArray, List.set_cons_zero, List.set_cons_succ]
    refine wpAnyH_ready (rs := [2]) (by kernel_rfl) (by simp) (AllReadyH.cons rfl (fun K hK => ?_) AllReadyH.nil)
    try simp only [List.getElem_toArray, List.getElem_cons_zero, List.getElem_cons_succ]
    go_simp
    go_at_call 41
    refine (Co.rint_ref sz _ (by omega) (by omega)).mono ?_
    rintro e v1 ⟨x1, rfl, hown1, hb1⟩
    have H1 := Lib.hid (And.intro hown1 (And.intro (HBD.out.trans (hb1.mono (Nat.le_of_lt hltD))) (KWD.out.below hb1 hltD)))
    have hlt2 : w.heap.size < v1.heap.size := H1.out.2.2.lt
    have hgv : v0.heap.size ≤ v1.heap.size := hb1.size
    clear hown1 hb1
    refine hK.out _ _ ⟨by rw [H1.out.2.2.cell]; exact c0, by rw [H1.out.2.2.cell]; exact c1⟩ (fun hHeld => ?_)
    clear hK K
    try simp only [Act.put, List.getElem_toArray, List.getElem_cons_zero, List.getElem_cons_succ, List.setIfInBounds_toArray, List.set_cons_zero, List.set_cons_succ]
    refine wpAnyH_ready (rs := [5]) (by kernel_rfl) (by simp) (AllReadyH.cons rfl (fun K hK => ?_) AllReadyH.nil)
    try simp only [List.getElem_toArray, List.getElem_cons_zero, List.getElem_cons_succ]
    go_simp
    go_at_call 41
    refine (Co.rint_ref ch _ (by omega) (by omega)).mono ?_
    rintro e v2 ⟨x2, rfl, hown2, hb2⟩
    obtain ⟨a2, c2', rfl, ht2⟩ := Txt.own hown2 (Cd.byt_num ch)
    have hown1 : v2.ownsRow v0.heap.size 5 1 x1 (Cd.num sz).length (nums (Cd.num sz)) := own_keep H1.out.1 (fun b hb => hb2.block b (own_lt H1.out.1 b hb))
    have H2 := Lib.hid (And.intro hown1 (And.intro (H1.out.2.1.trans (hb2.mono (Nat.le_of_lt hlt2))) (And.intro (H1.out.2.2.below hb2 hlt2) ht2)))
    have hlt3 : w.heap.size < v2.heap.size := H2.out.2.2.1.lt
    have hgv2 : v0.heap.size ≤ v2.heap.size := Nat.le_trans hgv hb2.size
    clear hown2 hb2 ht2 hown1
    refine hK.out _ _ ⟨by rw [H2.out.2.2.1.cell]; exact c0, by rw [H2.out.2.2.1.cell]; exact c1⟩ (fun hHeld => ?_)
    clear hK K
    try simp only [Act.put, List.getElem_toArray, List.getElem_cons_zero, List.getElem_cons_succ, List.setIfInBounds_toArray, List.set_cons_zero, List.set_cons_succ]
    refine wpAnyH_ready (rs := [6]) (by kernel_rfl) (by simp) (AllReadyH.cons rfl (fun K hK => ?_) AllReadyH.nil)
    try simp only [List.getElem_toArray, List.getElem_cons_zero, List.getElem_cons_succ]
    refine if_wanted (by rfl) ?_
    refine wp_append_txt _ (.tmp 11) (.tmp 14) 23 rfl v0.heap.size 5 j0 (.int .u8 0) 1 Tryd.underlying23 HI.out.1 HI.out.2.1 HI.out.2.2.1 HI.out.2.2.2 rfl _ (Cd.num sz).length (nums (Cd.num sz)) rfl H2.out.1 _ a2 (Cd.num ch).length c2' (Cd.num ch) rfl H2.out.2.2.2 (by have := HL.out; unfold maxLen; omega) (by have := HL.out; omega) hgv2 ?_
    intro x3 v3 hown3 hg3 _
    rw [← nums_append, ← List.length_append] at hown3
    have hb3 : Below w.heap.size w v3 := H2.out.2.1.grown hg3 (Nat.le_of_lt hlt3) (fun b hb => Nat.le_trans (Nat.le_of_lt hltD) (own_ge H2.out.1 b hb))
    have kw3 : Whole v3 w.heap.size 27 P := H2.out.2.2.1.grown hg3 (fun e => by have := own_ge H2.out.1 _ e.symm; omega)
    have H3 := Lib.hid (And.intro hown3 (And.intro hb3 kw3))
    have hlt4 : w.heap.size < v3.heap.size := kw3.lt
    have hgv3 : v0.heap.size ≤ v3.heap.size := Nat.le_trans hgv2 hg3.size
    clear hown3 hb3 kw3 hg3
    refine hK.out _ _ ⟨by rw [H3.out.2.2.cell]; exact c0, by rw [H3.out.2.2.cell]; exact c1⟩ (fun hHeld => ?_)
    clear hK K
    try simp only [Act.put, List.getElem_toArray, List.getElem_cons_zero, List.getElem_cons_succ, List.setIfInBounds_toArray, List.set_cons_zero, List.set_cons_succ]
    refine wpAnyH_ready (rs := [7]) (by kernel_rfl) (by simp) (AllReadyH.cons rfl (fun K hK => ?_) AllReadyH.nil)
    try simp only [List.getElem_toArray, List.getElem_cons_zero, List.getElem_cons_succ]
    go_simp
    refine hK.out _ _ ⟨by rw [H3.out.2.2.cell]; exact c0, by rw [H3.out.2.2.cell]; exact c1⟩ (fun hHeld => ?_)
    clear hK K
    try simp only [Act.put, List.getElem_toArray, List.getElem_cons_zero, List.getElem_cons_succ, List.setIfInBounds_toArray, List.set_cons_zero, List.set_cons_succ]
    refine wpAnyH_done (by kernel_rfl) ?_ _
    have hltv : w.heap.size < v0.heap.size := hltD
    obtain ⟨hd, hhd⟩ : ∃ hd, Cd.num sz ++ Cd.num ch = hd := ⟨_, rfl⟩
    rw [hhd] at H3
    have HHD := Lib.hid (And.intro hhd (show hd.length ≤ 20 by have := HL.out; rw [← hhd, List.length_append]; omega))
    clear hhd H1 H2
    go_wp2
    go_loopw [4, 5] (fun x i wr => ∃ k : Nat, k ≤ n ∧ i = .int .i64 (k : Int) ∧ Hid (wr.ownsRow v0.heap.size 5 1 x (hd ++ (m.ds.take k).flatten).length (nums (hd ++ (m.ds.take k).flatten)) ∧ Below w.heap.size w wr ∧ Whole wr w.heap.size 27 P ∧ v0.heap.size ≤ wr.heap.size)) (fun _ i _ => n - (intOf i).toNat)
    case atStart => exact ⟨0, Nat.zero_le _, rfl, Lib.hid ⟨by simpa using H3.out.1, H3.out.2.1, H3.out.2.2, hgv3⟩⟩
    case round =>
      obtain ⟨k, hk, rfl, HK4⟩ := hrel
      have k2 : wr.cell? ⟨w.heap.size, 2, none⟩ = some (.slice a n c) := by rw [HK4.out.2.2.1.cell]; exact c2
      have HLF : Hid ((m.ds.take k).flatten.length ≤ 3000) := Lib.hid (by
        have h1 := Mf.flatten_len (ds := m.ds.take k) (fun d hd => HDG.out.2.1 d (List.mem_of_mem_take hd))
        rw [h1, List.length_take]; omega)
      by_cases hlt : k < n
      · obtain ⟨b, off, rfl, hbS, hbl, hrg, hdg⟩ := HDG.out.cell_at hlt
        have HRG := Lib.hid (range_below hrg HK4.out.2.1 hbl)
        have HFS := Lib.hid (flat_snoc m.ds k (by rw [HLN.out]; exact hlt))
        generalize m.ds.getD k [] = d at *
        have HDD := Lib.hid hdg
        have hsl := slice_32
        have HT := Lib.hid (txt_range (S := fun _ => True) trivial (Nat.lt_of_lt_of_le hbl HK4.out.2.1.size) HRG.out HDD.out)
        clear hrg hdg
        go_wp2_with (at_builtin; refine wpList_append_txt _ rfl (.tmp 23) (.tmp 28) 23 rfl v0.heap.size 5 j0 (.int .u8 0) 1 Tryd.underlying23 HI.out.1 HI.out.2.1 HI.out.2.2.1 HI.out.2.2.2 rfl _ (hd ++ (m.ds.take k).flatten).length _ rfl HK4.out.1 _ _ 32 32 d rfl HT.out (by have h1 := HLF.out; have h2 := HHD.out.2; rw [List.length_append]; unfold maxLen; omega) (by have h1 := HLF.out; have h2 := HHD.out.2; rw [List.length_append]; omega) HK4.out.2.2.2 ?_; intro x5 w5 hown5 hg5 _)
        rw [← nums_append, List.append_assoc, ← HFS.out] at hown5
        have hb5 : Below w.heap.size w w5 := HK4.out.2.1.grown hg5 HK4.out.2.1.size (fun b hb => Nat.le_trans (Nat.le_of_lt hltv) (own_ge HK4.out.1 b hb))
        have kw5 : Whole w5 w.heap.size 27 P := HK4.out.2.2.1.grown hg5 (fun e => by have := own_ge HK4.out.1 _ e.symm; omega)
        have hl5 : (hd ++ (m.ds.take k).flatten).length + 32 = (hd ++ (m.ds.take (k + 1)).flatten).length := by rw [HFS.out]; simp [HDD.out.1]; omega
        rw [hl5] at hown5
        exact ⟨⟨k + 1, by omega, by go_num, Lib.hid ⟨hown5, hb5, kw5, Nat.le_trans HK4.out.2.2.2 hg5.size⟩⟩, by simp [intOf]; omega⟩
      · obtain rfl : k = n := by omega
        have hnd : (nums m.wh).length = 32 := by rw [nums_len, HWH.out.1]
        have HRG := Lib.hid (tail_range HK4.out.2.2.1 ct.out)
        have HT := Lib.hid (txt_range (S := fun _ => True) trivial HK4.out.2.2.1.lt HRG.out HWH.out)
        have hsl := slice_32
        go_wp2_with (at_builtin; refine wpList_append_txt _ rfl (.tmp 30) (.tmp 32) 23 rfl v0.heap.size 5 j0 (.int .u8 0) 1 Tryd.underlying23 HI.out.1 HI.out.2.1 HI.out.2.2.1 HI.out.2.2.2 rfl _ (hd ++ (m.ds.take k).flatten).length _ rfl HK4.out.1 _ _ 32 32 m.wh rfl HT.out (by have h1 := HLF.out; have h2 := HHD.out.2; rw [List.length_append]; unfold maxLen; omega) (by have h1 := HLF.out; have h2 := HHD.out.2; rw [List.length_append]; omega) HK4.out.2.2.2 ?_; intro x5 w5 hown5 hg5 _)
        have hbe : hd ++ (m.ds.take k).flatten ++ m.wh = Mf.body m := by
          rw [HBODY.out, ← HHD.out.1, List.take_of_length_le (by rw [HLN.out]; omega)]
          simp
        have hle : (hd ++ (m.ds.take k).flatten).length + 32 = (Mf.body m).length := by rw [← hbe]; simp [HWH.out.1]; omega
        rw [← nums_append, hbe, hle] at hown5
        have hby : Byt (Mf.body m) := by
          rw [HBODY.out]
          exact byt_append (Cd.byt_num sz) (byt_append (Cd.byt_num ch) (byt_append (Mf.byt_flatten HDG.out.2.1) HWH.out.2))
        have hb5 : Below w.heap.size w w5 := HK4.out.2.1.grown hg5 HK4.out.2.1.size (fun b hb => Nat.le_trans (Nat.le_of_lt hltv) (own_ge HK4.out.1 b hb))
        obtain ⟨a6, c6, rfl, ht6⟩ := Txt.own hown5 hby
        have H6 := Lib.hid (And.intro (ht6.weak (S' := (w.heap.size ≤ ·)) (fun b _ h => Nat.le_trans (Nat.le_of_lt hltv) h)) hb5)
        clear hown5 hb5 ht6 hg5 hby hbe hle
        go_wp2
        go_ret2
        exact ⟨Or.inr ⟨HNB.out, _, _, _, rfl, H6.out.1⟩, H6.out.2⟩
end Go.Proofs.YtdjibhpjdhpcgaaDoor
namespace Go.Proofs.YtdjibhpjdhpcgaaDoor
set_option maxRecDepth 20000
set_option linter.unusedSimpArgs false
open Go.RowKit
theorem wpList_load_midG {P : Program} {ops : Array Oper} {rest : List Oper} {op : Oper} {a : Act} {w : World} {Q : Exit → Act → World → Prop} (hgd : Region.wanted op (yielded ops a.tmps) = true) (ty : TypeId) (x : Operand) (ho : op.op = .load ty x)
    (b o : Nat) (hx : a.eval x = .pointer (some ⟨b, o, none⟩)) (cs : List Value) (d : TypeDesc) (hc : w.rangeAt b o cs)
    (hu : P.underlying ty = some d) (hd : d.isRow = true) (hi : (P.info? ty).map (·.size) = some cs.length)
    (h : wpList P ops Q rest (a.put op.dst (.agg cs.toArray)) w) : wpList P ops Q (op :: rest) a w :=
  wpList_step fun _ hK => by rw [if_pos hgd]; exact wp_load_mid ty x ho b o hx cs d hc hu hd hi (hK _ _ h)
set_option maxHeartbeats 4000000 in
theorem same_eq {w : World} {S S' : Nat → Prop} {v v' : Value} {m : Mf.Man} (h : Mv w S v m) (h' : Mv w S' v' m) (hn : m.ds.length ≤ 1000) :
    Calls Tryd.prog 15 #[v, v'] w fun e w' => e = .returned (.bool true) ∧ Below w.heap.size w w' := by
  obtain ⟨a, n, c, rfl, hnc, hd, hw, hs, hc⟩ := h
  obtain ⟨a', n', c', rfl, hnc', hd', _, _, _⟩ := h'
  have hnn : n' = n := by rw [← hd.1, ← hd'.1]
  subst hnn
  have hn1 : n' ≤ 1000 := by rw [← hd.1]; exact hn
  have HDG := Lib.hid hd.old
  have HDG' := Lib.hid hd'.old
  have c0 : (mcs m.size m.chunk (.slice a n' c) m.wh).toArray[0]? = some (.int .i64 m.size) := rfl
  have c1 : (mcs m.size m.chunk (.slice a n' c) m.wh).toArray[1]? = some (.int .i64 m.chunk) := rfl
  have c2 : (mcs m.size m.chunk (.slice a n' c) m.wh).toArray[2]? = some (.slice a n' c) := rfl
  have ct := Lib.hid (mcs_tail (s := m.size) (c := m.chunk) (x := .slice a n' c) (h := m.wh))
  have e0 : (mcs m.size m.chunk (.slice a' n' c') m.wh).toArray[0]? = some (.int .i64 m.size) := rfl
  have e1 : (mcs m.size m.chunk (.slice a' n' c') m.wh).toArray[1]? = some (.int .i64 m.chunk) := rfl
  have e2 : (mcs m.size m.chunk (.slice a' n' c') m.wh).toArray[2]? = some (.slice a' n' c') := rfl
  have et := Lib.hid (mcs_tail (s := m.size) (c := m.chunk) (x := .slice a' n' c') (h := m.wh))
  have hnd : (nums m.wh).length = 32 := by rw [nums_len, hw.1]
  have hi32 : (Tryd.prog.info? 25).map (·.size) = some (nums m.wh).length := by rw [hnd]; exact info32
  have HQ : ∀ w : World, (Op.equalIn 10000 25 (.agg (nums m.wh).toArray) (.agg (nums m.wh).toArray)).run Tryd.prog w = .ok true w := fun w => by
    have h := equal32 9999 (fun a b w => run_equalIn_int w 9998 5 .u8 .u8 a b Tryd.underlying5) m.wh m.wh hw.1 hw.1 w
    rw [h, decide_eq_true rfl]
  clear hd hd' hw hs hc hnc hnc' hn hnd
  generalize (mcs m.size m.chunk (.slice a n' c) m.wh).toArray = P at *
  generalize (mcs m.size m.chunk (.slice a' n' c') m.wh).toArray = P' at *
  generalize nums m.wh = nw at *
  generalize m.size = sz at *
  generalize m.chunk = ch at *
  have kw : Whole ((w.alloc (.cells P 27)).alloc (.cells P' 27)) w.heap.size 27 P := (Whole.new w 27 P).alloc _
  have kr : Whole ((w.alloc (.cells P 27)).alloc (.cells P' 27)) (w.heap.size + 1) 27 P' := by
    have h := Whole.new (w.alloc (.cells P 27)) 27 P'
    rw [size_alloc] at h; exact h
  have HRG : Hid (((w.alloc (.cells P 27)).alloc (.cells P' 27)).rangeAt w.heap.size 3 nw) := Lib.hid (tail_range kw ct.out)
  have HRG' : Hid (((w.alloc (.cells P 27)).alloc (.cells P' 27)).rangeAt (w.heap.size + 1) 3 nw) := Lib.hid (tail_range kr et.out)
  have H2 : Hid (Whole ((w.alloc (.cells P 27)).alloc (.cells P' 27)) w.heap.size 27 P ∧ Whole ((w.alloc (.cells P 27)).alloc (.cells P' 27)) (w.heap.size + 1) 27 P' ∧ Below w.heap.size w ((w.alloc (.cells P 27)).alloc (.cells P' 27))) := Lib.hid ⟨kw, kr, below_two w _ _⟩
  clear kw kr
  go_enter Tryd.func15, Tryd.ntmps15
  go_wp2_with (first
    | ((with_reducible show wpList _ _ _ ((⟨_, Op.load 25 (.tmp 19), _, _, _, _⟩ : Oper) :: _) _ _); refine wpList_load_midG (by rfl) _ (.tmp 19) rfl w.heap.size 3 rfl nw _ HRG.out und32 rfl hi32 ?_)
    | ((with_reducible show wpList _ _ _ ((⟨_, Op.load 25 (.tmp 21), _, _, _, _⟩ : Oper) :: _) _ _); refine wpList_load_midG (by rfl) _ (.tmp 21) rfl (w.heap.size + 1) 3 rfl nw _ HRG'.out und32 rfl hi32 ?_))
  clear HRG HRG' HQ ct et hi32
  generalize (w.alloc (.cells P 27)).alloc (.cells P' 27) = w2 at *
  go_loopw [5] (fun i wr => ∃ k : Nat, k ≤ n' ∧ i = .int .i64 (k : Int) ∧ Hid (Whole wr w.heap.size 27 P ∧ Whole wr (w.heap.size + 1) 27 P' ∧ Below w.heap.size w wr)) (fun i _ => n' - (intOf i).toNat)
  case atStart => exact ⟨0, Nat.zero_le _, rfl, H2⟩
  case round =>
    obtain ⟨k, hk, rfl, HK⟩ := hrel
    have k2 : wr.cell? ⟨w.heap.size, 2, none⟩ = some (.slice a n' c) := by rw [HK.out.1.cell]; exact c2
    have k3 : wr.cell? ⟨w.heap.size + 1, 2, none⟩ = some (.slice a' n' c') := by rw [HK.out.2.1.cell]; exact e2
    by_cases hlt : k < n'
    · obtain ⟨b, off, rfl, hbS, hbl, hrg, hdg⟩ := HDG.out.cell_at hlt
      obtain ⟨b', off', rfl, hbS', hbl', hrg', _⟩ := HDG'.out.cell_at hlt
      have rg1 : wr.drew.rangeAt b (off + k * 32) _ := range_below hrg HK.out.2.2.drew hbl
      have rg2 : wr.drew.rangeAt b' (off' + k * 32) _ := range_below hrg' HK.out.2.2.drew hbl'
      have HKD := Lib.hid (show Whole wr.drew w.heap.size 27 P ∧ Whole wr.drew (w.heap.size + 1) 27 P' ∧ Below w.heap.size w wr.drew from ⟨HK.out.1, HK.out.2.1, HK.out.2.2.drew⟩)
      have k21 : wr.drew.cell? ⟨w.heap.size, 2, none⟩ = _ := k2
      have k31 : wr.drew.cell? ⟨w.heap.size + 1, 2, none⟩ = _ := k3
      generalize m.ds.getD k [] = d at *
      have hnd : (nums d).length = 32 := by rw [nums_len, hdg.1]
      have hi32 : (Tryd.prog.info? 25).map (·.size) = some (nums d).length := by rw [hnd]; exact info32
      have hu := und32
      have HQ : ∀ w : World, (Op.equalIn 10000 25 (.agg (nums d).toArray) (.agg (nums d).toArray)).run Tryd.prog w = .ok true w := fun w => by
        have h := equal32 9999 (fun a b w => run_equalIn_int w 9998 5 .u8 .u8 a b Tryd.underlying5) d d hdg.1 hdg.1 w
        rw [h, decide_eq_true rfl]
      clear hdg hrg hrg' hnd
      generalize nums d = nd at *
      go_wp2
      refine wp_region_held_drew (S := fun w' => w'.cell? ⟨w.heap.size, 2, none⟩ = some (.slice (some ⟨b, off, none⟩) n' c) ∧ w'.cell? ⟨w.heap.size + 1, 2, none⟩ = some (.slice (some ⟨b', off', none⟩) n' c') ∧ w'.rangeAt b (off + k * 32) nd ∧ w'.rangeAt b' (off' + k * 32) nd) (by kernel_rfl) ⟨k21, k31, rg1, rg2⟩ (fun hHeld => ?_)
      refine wpAnyH_take (i := 0) (v := .pointer (some ⟨w.heap.size, 2, none⟩)) rfl (by kernel_rfl) (by kernel_rfl) (by kernel_rfl) (fun _ _ _ h => h) (Or.inl ⟨by rfl, (by intro w hSw; (try dsimp only at hSw); go_simp)⟩) (by assumption) ?_
      try simp only [Act.put, List.getElem_toArray, List.getElem_cons_zero, List.getElem_cons_succ, List.setIfInBounds_toArray, List.set_cons_zero, List.set_cons_succ]
      refine wpAnyH_take (i := 1) (v := .slice (some ⟨b, off, none⟩) n' c) rfl (by kernel_rfl) (by kernel_rfl) (by kernel_rfl) (fun _ _ _ h => h) (Or.inl ⟨by rfl, (by intro w hSw; (try dsimp only at hSw); go_simp)⟩) (by assumption) ?_
      try simp only [Act.put, List.getElem_toArray, List.getElem_cons_zero, List.getElem_cons_succ, List.setIfInBounds_toArray, List.set_cons_zero, List.set_cons_succ]
      refine wpAnyH_take (i := 2) (v := .int .i64 (k : Int)) rfl (by kernel_rfl) (by kernel_rfl) (by kernel_rfl) (fun _ _ _ h => h) (Or.inl ⟨by rfl, (by intro w hSw; (try dsimp only at hSw); go_simp)⟩) (by assumption) ?_
      try simp only [Act.put, List.getElem_toArray, List.getElem_cons_zero, List.getElem_cons_succ, List.setIfInBounds_toArray, List.set_cons_zero, List.set_cons_succ]
      refine wpAnyH_take (i := 3) (v := .pointer (some ⟨b, off + k * 32, none⟩)) rfl (by kernel_rfl) (by kernel_rfl) (by kernel_rfl) (fun _ _ _ h => h) (Or.inl ⟨by rfl, (by intro w hSw; (try dsimp only at hSw); go_simp)⟩) (by assumption) ?_
      try simp only [Act.put, List.getElem_toArray, List.getElem_cons_zero, List.getElem_cons_succ, List.setIfInBounds_toArray, List.set_cons_zero, List.set_cons_succ]
      refine wpAnyH_take (i := 4) (v := .agg nd.toArray) rfl (by kernel_rfl) (by kernel_rfl) (by kernel_rfl) (fun _ _ _ h => h) (yieldsIf_load_mid (by rfl) _ _ rfl _ _ rfl _ _ (fun w hSw => hSw.2.2.1) hu rfl hi32) (by assumption) ?_
      try simp only [Act.put, List.getElem_toArray, List.getElem_cons_zero, List.getElem_cons_succ, List.setIfInBounds_toArray, List.set_cons_zero, List.set_cons_succ]
      refine wpAnyH_take (i := 5) (v := .pointer (some ⟨w.heap.size + 1, 2, none⟩)) rfl (by kernel_rfl) (by kernel_rfl) (by kernel_rfl) (fun _ _ _ h => h) (Or.inl ⟨by rfl, (by intro w hSw; (try dsimp only at hSw); go_simp)⟩) (by assumption) ?_
      try simp only [Act.put, List.getElem_toArray, List.getElem_cons_zero, List.getElem_cons_succ, List.setIfInBounds_toArray, List.set_cons_zero, List.set_cons_succ]
      refine wpAnyH_take (i := 6) (v := .slice (some ⟨b', off', none⟩) n' c') rfl (by kernel_rfl) (by kernel_rfl) (by kernel_rfl) (fun _ _ _ h => h) (Or.inl ⟨by rfl, (by intro w hSw; (try dsimp only at hSw); go_simp)⟩) (by assumption) ?_
      try simp only [Act.put, List.getElem_toArray, List.getElem_cons_zero, List.getElem_cons_succ, List.setIfInBounds_toArray, List.set_cons_zero, List.set_cons_succ]
      refine wpAnyH_take (i := 7) (v := .int .i64 (k : Int)) rfl (by kernel_rfl) (by kernel_rfl) (by kernel_rfl) (fun _ _ _ h => h) (Or.inl ⟨by rfl, (by intro w hSw; (try dsimp only at hSw); go_simp)⟩) (by assumption) ?_
      try simp only [Act.put, List.getElem_toArray, List.getElem_cons_zero, List.getElem_cons_succ, List.setIfInBounds_toArray, List.set_cons_zero, List.set_cons_succ]
      refine wpAnyH_take (i := 8) (v := .pointer (some ⟨b', off' + k * 32, none⟩)) rfl (by kernel_rfl) (by kernel_rfl) (by kernel_rfl) (fun _ _ _ h => h) (Or.inl ⟨by rfl, (by intro w hSw; (try dsimp only at hSw); go_simp)⟩) (by assumption) ?_
      try simp only [Act.put, List.getElem_toArray, List.getElem_cons_zero, List.getElem_cons_succ, List.setIfInBounds_toArray, List.set_cons_zero, List.set_cons_succ]
      refine wpAnyH_take (i := 9) (v := .agg nd.toArray) rfl (by kernel_rfl) (by kernel_rfl) (by kernel_rfl) (fun _ _ _ h => h) (yieldsIf_load_mid (by rfl) _ _ rfl _ _ rfl _ _ (fun w hSw => hSw.2.2.2) hu rfl hi32) (by assumption) ?_
      try simp only [Act.put, List.getElem_toArray, List.getElem_cons_zero, List.getElem_cons_succ, List.setIfInBounds_toArray, List.set_cons_zero, List.set_cons_succ]
      refine wpAnyH_take (i := 10) (v := .bool false) rfl (by kernel_rfl) (by kernel_rfl) (by kernel_rfl) (fun _ _ _ h => h) (Or.inl ⟨by rfl, (by intro w hSw; (try dsimp only at hSw); go_simp)⟩) (by assumption) ?_
      try simp only [Act.put, List.getElem_toArray, List.getElem_cons_zero, List.getElem_cons_succ, List.setIfInBounds_toArray, List.set_cons_zero, List.set_cons_succ]
      refine wpAnyH_done (by kernel_rfl) ?_ _
      go_wp2
      exact ⟨⟨k + 1, by omega, by go_num, HKD⟩, by simp [intOf]; omega⟩
    · obtain rfl : k = n' := by omega
      go_wp2
      go_ret
      exact ⟨rfl, HK.out.2.2⟩
end Go.Proofs.YtdjibhpjdhpcgaaDoor
namespace Go.Proofs.YtdjibhpjdhpcgaaDoor
set_option maxRecDepth 20000
set_option linter.unusedSimpArgs false
open Go.RowKit
theorem chunksOf_any (a : Option Addr) (n c : Nat) (ch : Int) (w : World) :
    Calls Tryd.prog 33 #[.slice a n c, .int .i64 ch] w fun e w' => e = .returned (.func (.func 51) #[] #[.pointer (some ⟨w.heap.size + 1, 0, none⟩), .pointer (some ⟨w.heap.size, 0, none⟩)]) ∧
      Whole w' (w.heap.size + 1) 23 #[.slice a n c] ∧ Whole w' w.heap.size 3 #[.int .i64 ch] ∧ Below w.heap.size w w' := by
  have hmf : ∀ (fn : Fn) (first cap : Array Value) (w : World), (Instr.makeFunc fn first cap).run Tryd.prog w = .ok (.func fn first cap) w := fun _ _ _ _ => rfl
  go_enter Tryd.func33, Tryd.ntmps33
  go_wp2
  go_ret
  have k := Whole.new (w.alloc (.cells #[.int .i64 ch] 3)) 23 #[.slice a n c]
  rw [size_alloc] at k
  exact ⟨rfl, k, (Whole.new w _ _).alloc _, below_two w _ _⟩
theorem next_any {w0 w : World} {S : Nat → Prop} {R C : Nat} {a : Option Addr} {n c : Nat} {l : List Int} {ch : Nat} (hR : Whole w R 23 #[.slice a n c]) (hC : Whole w C 3 #[.int .i64 (ch : Int)]) (ht : Txt w0 S a n c l) :
    Calls Tryd.prog 51 #[.pointer (some ⟨R, 0, none⟩), .pointer (some ⟨C, 0, none⟩)] w fun e w' => ∃ a2 n2 c2 a3 n3 c3, e = .returned (.slice a2 n2 c2) ∧ w' = w.setCell ⟨R, 0, none⟩ (.slice a3 n3 c3) ∧ Txt w0 S a2 n2 c2 (l.take ch) ∧ Txt w0 S a3 n3 c3 (l.drop ch) := by
  have hc : n ≤ c := ht.2.1
  have HLN := Lib.hid ht.1
  have HT := Lib.hid ht
  have hr0 : w.cell? ⟨R, 0, none⟩ = some (.slice a n c) := hR.cell 0
  have hc0 : w.cell? ⟨C, 0, none⟩ = some (.int .i64 (ch : Int)) := hC.cell 0
  have hf : w.frozen? ⟨R, 0, none⟩ = false := hR.frozen 0
  clear hR hC ht
  by_cases hlt : n < ch
  · have d1 : decide ((n : Int) < (ch : Int)) = true := decide_eq_true (by omega)
    have d2 : decide (n < ch) = true := decide_eq_true hlt
    have hm1 : min (ch : Int) (n : Int) = (n : Int) := by omega
    have hm2 : (if n < ch then (n : Int) else (ch : Int)) = (n : Int) := if_pos hlt
    have hm3 : (if (n : Int) < (ch : Int) then (n : Int) else (ch : Int)) = (n : Int) := if_pos (by omega)
    have hs1 := Co.slice_to (a := a) (n := n) (c := c) (k := n) hc
    have hs2 := slice_from (a := a) (m := n) (c := c) (j := n) (Nat.le_refl n)
    have H1 := Lib.hid (HT.out.take n (Nat.le_refl n))
    have H2 := Lib.hid (HT.out.drop n (Nat.le_refl n))
    obtain ⟨A, hA, HA⟩ : ∃ A, (∀ w, (Instr.slice 23 (.slice a n c) (some (.int .i64 (n : Int))) none none).run Tryd.prog w = .ok (.slice A (n - n) (c - n)) w) ∧ Hid (Txt w0 S A (n - n) (c - n) (l.drop n)) := ⟨_, hs2, H2⟩
    have HE : Hid (l.take ch = l.take n ∧ l.drop ch = l.drop n) := Lib.hid (by
      have := HLN.out
      rw [List.take_of_length_le (by omega), List.take_of_length_le (by omega), List.drop_of_length_le (by omega), List.drop_of_length_le (by omega)]; exact ⟨rfl, rfl⟩)
    clear hs2 H2
    go_enter Tryd.func51, Tryd.ntmps51
    go_wp2
    go_ret
    exact ⟨_, _, _, _, _, _, rfl, rfl, by rw [HE.out.1]; exact H1.out, by rw [HE.out.2]; have h := HA.out; rw [Nat.sub_self] at h; exact h⟩
  · have d1 : decide ((n : Int) < (ch : Int)) = false := decide_eq_false (by omega)
    have d2 : decide (n < ch) = false := decide_eq_false hlt
    have hm1 : min (ch : Int) (n : Int) = (ch : Int) := by omega
    have hm2 : (if n < ch then (n : Int) else (ch : Int)) = (ch : Int) := if_neg hlt
    have hm3 : (if (n : Int) < (ch : Int) then (n : Int) else (ch : Int)) = (ch : Int) := if_neg (by omega)
    have hs1 := Co.slice_to (a := a) (n := n) (c := c) (k := ch) (by omega)
    have hs2 := slice_from (a := a) (m := n) (c := c) (j := ch) (by omega)
    have H1 := Lib.hid (HT.out.take ch (by omega))
    have H2 := Lib.hid (HT.out.drop ch (by omega))
    obtain ⟨A, hA, HA⟩ : ∃ A, (∀ w, (Instr.slice 23 (.slice a n c) (some (.int .i64 (ch : Int))) none none).run Tryd.prog w = .ok (.slice A (n - ch) (c - ch)) w) ∧ Hid (Txt w0 S A (n - ch) (c - ch) (l.drop ch)) := ⟨_, hs2, H2⟩
    clear hs2 H2
    go_enter Tryd.func51, Tryd.ntmps51
    go_wp2
    go_ret
    exact ⟨_, _, _, _, _, _, rfl, rfl, H1.out, HA.out⟩
end Go.Proofs.YtdjibhpjdhpcgaaDoor
