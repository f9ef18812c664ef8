/-
  The walk of Encode.
  The walk of the document's Encode.
  The walk of the document's Same, where both are the same manifest.
  The walks of chunksOf, and of the closure that it makes.
  The walk of Build.
  The walk of the document's Build.
-/
import Derived.Test.YtcfchkffanfehaaZn
import Derived.Test.YtcfchkffanfehaaZr
import Derived.Laws.MakeOwn
import Derived.Laws.CopyOwn
namespace Go.Proofs.Ytcfchkffanfehaa
set_option maxRecDepth 20000
set_option linter.unusedSimpArgs false
open Go.RowKit
/-- What Encode answers. -/
def Encd (w : World) (m : Mf.Man) (e : Ending) (w' : World) : Prop :=
  ((m.bad ∧ e = .returned (.tuple #[.slice none 0 0, .int .i64 50])) ∨
    (¬ m.bad ∧ ∃ a n c, e = .returned (.tuple #[.slice a n c, .int .i64 0]) ∧ Txt w' (w.heap.size ≤ ·) a n c (Mf.body m))) ∧ Below w.heap.size w w'
theorem good_in {m : Mf.Man} (h : ¬ m.bad) : 1 ≤ m.size ∧ m.size ≤ 65536 ∧ 1 ≤ m.chunk ∧ m.chunk ≤ 4096 ∧ m.ds.length ≤ 64 := by
  have hn : Mf.cnt m.size m.chunk ≠ 0 := fun e => h (Or.inl e)
  have hl : m.ds.length = Mf.cnt m.size m.chunk := Decidable.byContradiction fun e => h (Or.inr e)
  obtain ⟨h1, h2, h3, h4⟩ := Mf.cnt_in hn
  exact ⟨h1, h2, h3, h4, by rw [hl]; exact Mf.cnt_le _ _⟩
set_option maxHeartbeats 2000000 in
theorem encode_any {w : World} {S : Nat → Prop} {v : Value} {m : Mf.Man} (h : Mv w S v m) :
    Calls Try.prog 27 #[v] w (Encd w m) := by
  have HM := Lib.hid h
  obtain ⟨a, n, c, rfl, hnc, hd, hw, hs, hc⟩ := h
  have HWH := Lib.hid hw
  have HLN := Lib.hid hd.1
  have HDG := Lib.hid hd.old
  have hsz := msize (s := m.size) (c := m.chunk) (v := .slice a n c) hw.1
  have c0 : (mcs m.size m.chunk (.slice a n c) m.wh).toArray[0]? = some (.int .i64 m.size) := rfl
  have c1 : (mcs m.size m.chunk (.slice a n c) m.wh).toArray[1]? = some (.int .i64 m.chunk) := rfl
  have c2 : (mcs m.size m.chunk (.slice a n c) m.wh).toArray[2]? = some (.slice a n c) := rfl
  have ct := Lib.hid (mcs_tail (s := m.size) (c := m.chunk) (x := .slice a n c) (h := m.wh))
  clear hd hw hs hc hnc
  generalize (mcs m.size m.chunk (.slice a n c) m.wh).toArray = P at *
  have HC := Lib.hid (show Mv (w.alloc (.cells P 26)) (fun b => b < w.heap.size) (.agg P) m from HM.out.old.keep (by simp) fun b hb _ => Below.heap_alloc _ _ _ hb)
  by_cases hbad : m.bad
  · have hk : Mf.chk m = 50 := by unfold Mf.chk; rw [if_pos hbad]
    have HK := Lib.hid hk
    clear hk
    go_enter Try.func27, Try.ntmps27
    go_wp2_with (first | ((with_reducible show wpList _ _ _ ((⟨_, Op.load 26 _, _, _, _, _⟩ : Oper) :: _) _ _); refine wpList_load_row rfl _ (.tmp 1) rfl w.heap.size rfl 26 P (0, 0) _ (Whole.new w _ _) Try.underlying26 rfl (by rw [hsz]; exact info35) ?_) | (go_at_call 46; refine (check_any HC.out).mono ?_; rintro e w1 ⟨rfl, hb1⟩; have HB1 := Lib.hid (below_box hb1); clear hb1; rw [HK.out]))
    go_ret2
    exact ⟨Or.inl ⟨hbad, rfl⟩, HB1.out⟩
  · have HK := Lib.hid (Mf.chk_zero hbad)
    obtain ⟨hs0, hs1, hc0, hc1, hn64⟩ := good_in hbad
    rw [HLN.out] at hn64
    have HNB := Lib.hid hbad
    clear hbad
    obtain ⟨sz, esz⟩ : ∃ sz, m.size = sz := ⟨_, rfl⟩
    obtain ⟨ch, ech⟩ : ∃ ch, m.chunk = ch := ⟨_, rfl⟩
    have HBODY : Hid (Mf.body m = Cd.num sz ++ (Cd.num ch ++ (m.ds.flatten ++ m.wh))) := Lib.hid (by unfold Mf.body; rw [esz, ech])
    rw [esz] at c0 hs0 hs1
    rw [ech] at c1 hc0 hc1
    clear esz ech
    go_enter Try.func27, Try.ntmps27
    go_wp2_with (first | ((with_reducible show wpList _ _ _ ((⟨_, Op.load 26 _, _, _, _, _⟩ : Oper) :: _) _ _); refine wpList_load_row rfl _ (.tmp 1) rfl w.heap.size rfl 26 P (0, 0) _ (Whole.new w _ _) Try.underlying26 rfl (by rw [hsz]; exact info35) ?_) | (go_at_call 46; refine (check_any HC.out).mono ?_; rintro e w1 ⟨rfl, hb1⟩; have HB1 := Lib.hid (below_box hb1); have KW := Lib.hid ((Whole.new w 26 P).below hb1 (by simp)); clear hb1; rw [HK.out]; have k0 : w1.cell? ⟨w.heap.size, 0, none⟩ = some (.int .i64 sz) := (by rw [KW.out.cell]; exact c0); have hlt1 : w.heap.size < w1.heap.size := KW.out.lt))
    have hw2 : Co.Wr (w1.alloc (Obj.cells #[Value.pointer none, Value.int IntKind.i64 0] 51)) w1.heap.size w1.heap.size [] := ⟨Nat.le_refl _, Or.inl ⟨rfl, Whole.new _ _ _⟩⟩
    refine (Co.int_any sz (by rw [size_alloc]; omega) hw2 (by simp) (by omega) (by omega)).mono ?_
    rintro e w3 ⟨rfl, hw3, hb3⟩
    have HW3 := Lib.hid hw3
    have HB13 := Lib.hid (show Below w1.heap.size w1 w3 from (below_alloc w1 _).trans hb3)
    have k1 : w3.cell? ⟨w.heap.size, 1, none⟩ = some (.int .i64 ch) := by rw [HB13.out.cell (p := ⟨w.heap.size, 1, none⟩) hlt1, KW.out.cell]; exact c1
    have hlt3 : w1.heap.size ≤ w3.heap.size := HB13.out.size
    have hl1 : (Cd.num sz).length ≤ 10 := Cd.num_len (by omega) (by omega)
    have hl2 : (Cd.num ch).length ≤ 10 := Cd.num_len (by omega) (by omega)
    clear hw2 hw3 hb3 k0
    have HL := Lib.hid (And.intro hl1 hl2)
    clear hl1 hl2
    go_wp2_with fail
    refine (Co.int_any ch hlt3 HW3.out (by have := HL.out; simp; omega) (by omega) (by omega)).mono ?_
    rintro e w4 ⟨rfl, hw4, hb4⟩
    have HW4 := Lib.hid hw4
    have HB14 := Lib.hid (show Below w1.heap.size w1 w4 from HB13.out.trans hb4)
    have k2 : w4.cell? ⟨w.heap.size, 2, none⟩ = some (.slice a n c) := by rw [HB14.out.cell (p := ⟨w.heap.size, 2, none⟩) hlt1, KW.out.cell]; exact c2
    clear hw4 hb4 k1 HW3 HB13 hlt3
    go_wp2
    go_loopw [26] (fun i wr => ∃ k : Nat, k ≤ n ∧ i = .int .i64 (k : Int) ∧ Hid (Co.Wr wr w1.heap.size w1.heap.size (([] ++ Cd.num sz ++ Cd.num ch) ++ (m.ds.take k).flatten) ∧ Below w1.heap.size w1 wr)) (fun i _ => n - (intOf i).toNat)
    case atStart => exact ⟨0, Nat.zero_le _, rfl, Lib.hid ⟨by simpa using HW4.out, HB14.out⟩⟩
    case round =>
      obtain ⟨k, hk, rfl, HK4⟩ := hrel
      by_cases hlt : k < n
      · obtain ⟨b, off, rfl, hbS, hbl, hrg, hdg⟩ := HDG.out.cell_at hlt
        have HBW := Lib.hid (HB1.out.trans (HK4.out.2.mono HB1.out.size))
        have HRG := Lib.hid (range_below hrg HBW.out hbl)
        have HFS := Lib.hid (flat_snoc m.ds k (by rw [HLN.out]; exact hlt))
        generalize m.ds.getD k [] = d at *
        have hnd : (nums d).length = 32 := by rw [nums_len, hdg.1]
        have hda : (nums d).toArray.size = 32 := by rw [List.size_toArray, hnd]
        have hall := all_nums d
        have HDD := Lib.hid hdg
        have hz0 : w1.heap.size ≤ wr.heap.size := HK4.out.2.size
        have HLF : Hid ((m.ds.take k).flatten.length ≤ 3000) := Lib.hid (by
          have h1 := Mf.flatten_len (ds := m.ds.take k) (fun d hd => HDG.out.2.1 d (List.mem_of_mem_take hd))
          rw [h1, List.length_take]; omega)
        clear hrg hdg
        go_wp2_with (first
          | ((with_reducible show wpList _ _ _ ((⟨_, Op.load 24 (.tmp 28), _, _, _, _⟩ : Oper) :: _) _ _); refine wpList_load_mid rfl _ (.tmp 28) rfl b (off + k * 32) rfl (nums d) _ HRG.out und32 rfl (by rw [hnd]; exact info32) ?_)
          | ((with_reducible show wpList _ _ _ ((⟨_, Op.store 24 _ _, _, _, _, _⟩ : Oper) :: _) _ _); refine wpList_store_row rfl _ (.tmp 7) (.tmp 29) rfl wr.heap.size _ rfl rfl 24 _ (Whole.new wr _ _) (by rw [hda]; exact info32) (by rw [hda]; rfl) hall ?_)
          | ((with_reducible show wpList _ _ _ ((⟨_, Op.load 24 (.tmp 7), _, _, _, _⟩ : Oper) :: _) _ _); refine wpList_load_row rfl _ (.tmp 7) rfl wr.heap.size rfl 24 (nums d).toArray (0, 0) _ put_row und32 rfl (by rw [hda]; exact info32) ?_))
        have hbp : Below wr.heap.size wr ((wr.alloc (.cells #[Value.int IntKind.u8 0, Value.int IntKind.u8 0, Value.int IntKind.u8 0, Value.int IntKind.u8 0, Value.int IntKind.u8 0, Value.int IntKind.u8 0, Value.int IntKind.u8 0, Value.int IntKind.u8 0, Value.int IntKind.u8 0, Value.int IntKind.u8 0, Value.int IntKind.u8 0, Value.int IntKind.u8 0, Value.int IntKind.u8 0, Value.int IntKind.u8 0, Value.int IntKind.u8 0, Value.int IntKind.u8 0, Value.int IntKind.u8 0, Value.int IntKind.u8 0, Value.int IntKind.u8 0, Value.int IntKind.u8 0, Value.int IntKind.u8 0, Value.int IntKind.u8 0, Value.int IntKind.u8 0, Value.int IntKind.u8 0, Value.int IntKind.u8 0, Value.int IntKind.u8 0, Value.int IntKind.u8 0, Value.int IntKind.u8 0, Value.int IntKind.u8 0, Value.int IntKind.u8 0, Value.int IntKind.u8 0, Value.int IntKind.u8 0] 24)).setRow wr.heap.size (nums d).toArray) := put_below (Below.refl _ _) (Nat.le_refl _)
        refine (Co.hash_any (by have := hbp.size; omega) (HK4.out.1.below hbp) HDD.out.1 HDD.out.2 (by have h1 := HL.out; have h2 := HLF.out; simp only [List.length_append, List.length_nil]; omega)).mono ?_
        rintro e w5 ⟨rfl, hw5, hb5⟩
        have H5 := Lib.hid (And.intro hw5 (HK4.out.2.trans ((hbp.mono hz0).trans hb5)))
        clear hw5 hb5 hbp
        go_wp2
        exact ⟨⟨k + 1, by omega, by go_num, Lib.hid ⟨by rw [HFS.out, ← List.append_assoc]; exact H5.out.1, H5.out.2⟩⟩, by simp [intOf]; omega⟩
      · obtain rfl : k = n := by omega
        have HBW := Lib.hid (HB1.out.trans (HK4.out.2.mono HB1.out.size))
        have hrg : wr.rangeAt w.heap.size 3 (nums m.wh) := range_below (tail_range KW.out ct.out) HK4.out.2 hlt1
        have HRG := Lib.hid hrg
        have hnd : (nums m.wh).length = 32 := by rw [nums_len, HWH.out.1]
        have HLF : Hid ((m.ds.take k).flatten.length ≤ 3000) := Lib.hid (by
          have h1 := Mf.flatten_len (ds := m.ds.take k) (fun d hd => HDG.out.2.1 d (List.mem_of_mem_take hd))
          rw [h1, List.length_take]; omega)
        have hz0 : w1.heap.size ≤ wr.heap.size := HK4.out.2.size
        clear hrg
        go_wp2_with ((with_reducible show wpList _ _ _ ((⟨_, Op.load 24 _, _, _, _, _⟩ : Oper) :: _) _ _); refine wpList_load_mid rfl _ (.tmp 35) rfl w.heap.size 3 rfl (nums m.wh) _ HRG.out und32 rfl (by rw [hnd]; exact info32) ?_)
        refine (Co.hash_any hz0 HK4.out.1 HWH.out.1 HWH.out.2 (by have h1 := HL.out; have h2 := HLF.out; simp only [List.length_append, List.length_nil]; omega)).mono ?_
        rintro e w5 ⟨rfl, hw5, hb5⟩
        have hbe : [] ++ Cd.num sz ++ Cd.num ch ++ (m.ds.take k).flatten ++ m.wh = Mf.body m := by
          rw [HBODY.out, List.take_of_length_le (by rw [HLN.out]; omega)]
          simp
        rw [hbe] at hw5
        have hby : Byt (Mf.body m) := by
          rw [HBODY.out]
          exact byt_append (Cd.byt_num sz) (byt_append (Cd.byt_num ch) (byt_append (Mf.byt_flatten HDG.out.2.1) HWH.out.2))
        have hlb : (Mf.body m).length ≤ 5000 := by
          rw [← hbe]
          have h1 := HL.out; have h2 := HLF.out
          simp only [List.length_append, List.length_nil, HWH.out.1]; omega
        have H5 := Lib.hid (And.intro hw5 (And.intro (HBW.out.trans (hb5.mono (by have := HB1.out.size; omega))) (And.intro hby hlb)))
        clear hw5 hb5 hbe hby hlb
        go_wp2_with fail
        refine (Co.bytes_any H5.out.1 H5.out.2.2.1 (by have := H5.out.2.2.2; omega)).mono ?_
        rintro e w6 ⟨v6, rfl, hown, hb6⟩
        obtain ⟨a6, c6, rfl, ht6⟩ := Txt.own hown H5.out.2.2.1
        have H6 := Lib.hid (And.intro (ht6.weak (S' := (w.heap.size ≤ ·)) (fun b _ h => Nat.le_trans H5.out.2.1.size h)) (H5.out.2.1.trans (hb6.mono H5.out.2.1.size)))
        clear hown hb6 ht6
        go_wp2
        go_ret2
        exact ⟨Or.inr ⟨HNB.out, _, _, _, rfl, H6.out.1⟩, H6.out.2⟩
end Go.Proofs.Ytcfchkffanfehaa
namespace Go.Proofs.Ytcfchkffanfehaa
set_option maxRecDepth 20000
set_option linter.unusedSimpArgs false
open Go.RowKit
theorem own_keep {w w' : World} {base e size n : Nat} {v : Value} {xs : List Value} (h : w.ownsRow base e size v n xs) (hk : ∀ b, v.ownBlock = some b → w'.heap[b]? = w.heap[b]?) : w'.ownsRow base e size v n xs := by
  refine ⟨h.1, ?_⟩
  rcases h.2 with h | ⟨g, cap, cur, rfl, hb, hg, r⟩
  · exact Or.inl h
  · exact Or.inr ⟨g, cap, cur, rfl, hb, (hk g rfl).trans hg, r⟩
theorem txt_range {w : World} {S : Nat → Prop} {b o : Nat} {d : List Int} (hS : S b) (hlt : b < w.heap.size) (h : w.rangeAt b o (nums d)) (hd : Dig d) : Txt w S (some ⟨b, o, none⟩) 32 32 d :=
  ⟨hd.1, Nat.le_refl _, hd.2, Or.inr ⟨b, o, rfl, hS, hlt, fun k hk => h k _ (nums_get d k (by rw [hd.1]; exact hk))⟩⟩
theorem slice_32 (b o : Nat) (w : World) : (Instr.sliceAt 24 (.pointer (some ⟨b, o, none⟩)) none none none).run Try.prog w = .ok (.slice (some ⟨b, o, none⟩) 32 32) w := by
  simp [Instr.sliceAt, Instr.sureAddr, run_underlying und32, sz_u8, Instr.sliceBounds, Instr.sliceBound, Addr.add_lit]
theorem own_lt {w : World} {base e size n : Nat} {v : Value} {xs : List Value} (h : w.ownsRow base e size v n xs) : ∀ b, v.ownBlock = some b → b < w.heap.size := by
  intro b hb
  rcases h.2 with ⟨rfl, _⟩ | ⟨g, cap, cur, rfl, _, hg, _⟩
  · cases hb
  · injection hb with hb
    subst hb
    exact (Array.getElem?_eq_some_iff.1 hg).1
theorem own_ge {w : World} {base e size n : Nat} {v : Value} {xs : List Value} (h : w.ownsRow base e size v n xs) : ∀ b, v.ownBlock = some b → base ≤ b := by
  intro b hb
  rcases h.2 with ⟨rfl, _⟩ | ⟨g, cap, cur, rfl, hg, _⟩
  · cases hb
  · injection hb with hb
    subst hb
    exact hg
set_option maxHeartbeats 2000000 in
theorem rencode_any {w : World} {S : Nat → Prop} {v : Value} {m : Mf.Man} (h : Mv w S v m) :
    Calls Try.prog 31 #[v] w (Encd w m) := by
  have HM := Lib.hid h
  obtain ⟨j0, hj0, hz0, hz1, hz2⟩ := info_parts u8_info
  have HI := Lib.hid (And.intro hj0 (And.intro hz0 (And.intro hz1 hz2)))
  clear hj0 hz0 hz1 hz2
  obtain ⟨a, n, c, rfl, hnc, hd, hw, hs, hc⟩ := h
  have HWH := Lib.hid hw
  have HLN := Lib.hid hd.1
  have HDG := Lib.hid hd.old
  have hsz := msize (s := m.size) (c := m.chunk) (v := .slice a n c) hw.1
  have c0 : (mcs m.size m.chunk (.slice a n c) m.wh).toArray[0]? = some (.int .i64 m.size) := rfl
  have c1 : (mcs m.size m.chunk (.slice a n c) m.wh).toArray[1]? = some (.int .i64 m.chunk) := rfl
  have c2 : (mcs m.size m.chunk (.slice a n c) m.wh).toArray[2]? = some (.slice a n c) := rfl
  have ct := Lib.hid (mcs_tail (s := m.size) (c := m.chunk) (x := .slice a n c) (h := m.wh))
  clear hd hw hs hc hnc
  generalize (mcs m.size m.chunk (.slice a n c) m.wh).toArray = P at *
  have HC := Lib.hid (show Mv (w.alloc (.cells P 26)) (fun b => b < w.heap.size) (.agg P) m from HM.out.old.keep (by simp) fun b hb _ => Below.heap_alloc _ _ _ hb)
  by_cases hbad : m.bad
  · have hk : Mf.chk m = 50 := by unfold Mf.chk; rw [if_pos hbad]
    have HK := Lib.hid hk
    clear hk
    go_enter Try.func31, Try.ntmps31
    go_wp2_with (first | ((with_reducible show wpList _ _ _ ((⟨_, Op.load 26 _, _, _, _, _⟩ : Oper) :: _) _ _); refine wpList_load_row rfl _ (.tmp 1) rfl w.heap.size rfl 26 P (0, 0) _ (Whole.new w _ _) Try.underlying26 rfl (by rw [hsz]; exact info35) ?_) | (go_at_call 36; refine (rcheck_any HC.out).mono ?_; rintro e w1 ⟨rfl, hb1⟩; have HB1 := Lib.hid (below_box hb1); clear hb1; rw [HK.out]))
    go_ret2
    exact ⟨Or.inl ⟨hbad, rfl⟩, HB1.out⟩
  · have HK := Lib.hid (Mf.chk_zero hbad)
    obtain ⟨hs0, hs1, hc0, hc1, hn64⟩ := good_in hbad
    rw [HLN.out] at hn64
    have HNB := Lib.hid hbad
    clear hbad
    obtain ⟨sz, esz⟩ : ∃ sz, m.size = sz := ⟨_, rfl⟩
    obtain ⟨ch, ech⟩ : ∃ ch, m.chunk = ch := ⟨_, rfl⟩
    have HBODY : Hid (Mf.body m = Cd.num sz ++ (Cd.num ch ++ (m.ds.flatten ++ m.wh))) := Lib.hid (by unfold Mf.body; rw [esz, ech])
    rw [esz] at c0 hs0 hs1
    rw [ech] at c1 hc0 hc1
    clear esz ech
    have hl1 : (Cd.num sz).length ≤ 10 := Cd.num_len (by omega) (by omega)
    have hl2 : (Cd.num ch).length ≤ 10 := Cd.num_len (by omega) (by omega)
    have HL := Lib.hid (And.intro hl1 hl2)
    clear hl1 hl2
    go_enter Try.func31, Try.ntmps31
    go_wp2_with (first | ((with_reducible show wpList _ _ _ ((⟨_, Op.load 26 _, _, _, _, _⟩ : Oper) :: _) _ _); refine wpList_load_row rfl _ (.tmp 1) rfl w.heap.size rfl 26 P (0, 0) _ (Whole.new w _ _) Try.underlying26 rfl (by rw [hsz]; exact info35) ?_) | (go_at_call 36; refine (rcheck_any HC.out).mono ?_; rintro e w1 ⟨rfl, hb1⟩; have HB1 := Lib.hid (below_box hb1); have KW := Lib.hid ((Whole.new w 26 P).below hb1 (by simp)); clear hb1; rw [HK.out]; have hlt1 : w.heap.size < w1.heap.size := KW.out.lt))
    have HBD := Lib.hid (show Below w.heap.size w w1.drew from HB1.out.drew)
    have KWD := Lib.hid (show Whole w1.drew w.heap.size 26 P from KW.out)
    have hltD : w.heap.size < w1.drew.heap.size := hlt1
    refine wp_region_held_drew (S := fun w' => w'.cell? ⟨w.heap.size, 0, none⟩ = some (.int .i64 sz) ∧ w'.cell? ⟨w.heap.size, 1, none⟩ = some (.int .i64 ch)) (by kernel_rfl) ⟨by rw [KWD.out.cell]; exact c0, by rw [KWD.out.cell]; exact c1⟩ (fun hHeld => ?_)
    generalize w1.drew = v0 at *
    refine wpAnyH_take (i := 0) (v := .pointer (some ⟨w.heap.size, 0, none⟩)) rfl (by kernel_rfl) (by kernel_rfl) (by kernel_rfl) (fun _ _ _ h => h) (Or.inl ⟨by rfl, (by intro w hSw; (try dsimp only at hSw); go_simp)⟩) (by assumption) ?_
    try simp only [Act.put, List.getElem_toArray, List.getElem_cons_zero, List.getElem_cons_succ, List.setIfInBounds_toArray, List.set_cons_zero, List.set_cons_succ]
    refine wpAnyH_take (i := 1) (v := .int .i64 sz) rfl (by kernel_rfl) (by kernel_rfl) (by kernel_rfl) (fun _ _ _ h => h) (Or.inl ⟨by rfl, (by intro w hSw; (try dsimp only at hSw); go_simp)⟩) (by assumption) ?_
    try simp only [Act.put, List.getElem_toArray, List.getElem_cons_zero, List.getElem_cons_succ, List.setIfInBounds_toArray, List.set_cons_zero, List.set_cons_succ]
    refine wpAnyH_take (i := 3) (v := .pointer (some ⟨w.heap.size, 1, none⟩)) rfl (by kernel_rfl) (by kernel_rfl) (by kernel_rfl) (fun _ _ _ h => h) (Or.inl ⟨by rfl, (by intro w hSw; (try dsimp only at hSw); go_simp)⟩) (by assumption) ?_
    try simp only [Act.put, List.getElem_toArray, List.getElem_cons_zero, List.getElem_cons_succ, List.setIfInBounds_toArray, List.set_cons_zero, List.set_cons_succ]
    refine wpAnyH_take (i := 4) (v := .int .i64 ch) rfl (by kernel_rfl) (by kernel_rfl) (by kernel_rfl) (fun _ _ _ h => h) (Or.inl ⟨by rfl, (by intro w hSw; (try dsimp only at hSw); go_simp)⟩) (by assumption) ?_
    try simp only [Act.put, List.getElem_toArray, List.getElem_cons_zero, List.getElem_cons_succ, List.setIfInBounds_toArray, List.set_cons_zero, List.set_cons_succ]
    refine wpAnyH_ready (rs := [2]) (by kernel_rfl) (by simp) (AllReadyH.cons rfl (fun K hK => ?_) AllReadyH.nil)
    try simp only [List.getElem_toArray, List.getElem_cons_zero, List.getElem_cons_succ]
    go_simp
    go_at_call 30
    refine (Co.rint_ref sz _ (by omega) (by omega)).mono ?_
    rintro e v1 ⟨x1, rfl, hown1, hb1⟩
    have H1 := Lib.hid (And.intro hown1 (And.intro (HBD.out.trans (hb1.mono (Nat.le_of_lt hltD))) (KWD.out.below hb1 hltD)))
    have hlt2 : w.heap.size < v1.heap.size := H1.out.2.2.lt
    have hgv : v0.heap.size ≤ v1.heap.size := hb1.size
    clear hown1 hb1
    refine hK.out _ _ ⟨by rw [H1.out.2.2.cell]; exact c0, by rw [H1.out.2.2.cell]; exact c1⟩ (fun hHeld => ?_)
    clear hK K
    try simp only [Act.put, List.getElem_toArray, List.getElem_cons_zero, List.getElem_cons_succ, List.setIfInBounds_toArray, List.set_cons_zero, List.set_cons_succ]
    refine wpAnyH_ready (rs := [5]) (by kernel_rfl) (by simp) (AllReadyH.cons rfl (fun K hK => ?_) AllReadyH.nil)
    try simp only [List.getElem_toArray, List.getElem_cons_zero, List.getElem_cons_succ]
    go_simp
    go_at_call 30
    refine (Co.rint_ref ch _ (by omega) (by omega)).mono ?_
    rintro e v2 ⟨x2, rfl, hown2, hb2⟩
    obtain ⟨a2, c2', rfl, ht2⟩ := Txt.own hown2 (Cd.byt_num ch)
    have hown1 : v2.ownsRow v0.heap.size 5 1 x1 (Cd.num sz).length (nums (Cd.num sz)) := own_keep H1.out.1 (fun b hb => hb2.block b (own_lt H1.out.1 b hb))
    have H2 := Lib.hid (And.intro hown1 (And.intro (H1.out.2.1.trans (hb2.mono (Nat.le_of_lt hlt2))) (And.intro (H1.out.2.2.below hb2 hlt2) ht2)))
    have hlt3 : w.heap.size < v2.heap.size := H2.out.2.2.1.lt
    have hgv2 : v0.heap.size ≤ v2.heap.size := Nat.le_trans hgv hb2.size
    clear hown2 hb2 ht2 hown1
    refine hK.out _ _ ⟨by rw [H2.out.2.2.1.cell]; exact c0, by rw [H2.out.2.2.1.cell]; exact c1⟩ (fun hHeld => ?_)
    clear hK K
    try simp only [Act.put, List.getElem_toArray, List.getElem_cons_zero, List.getElem_cons_succ, List.setIfInBounds_toArray, List.set_cons_zero, List.set_cons_succ]
    refine wpAnyH_ready (rs := [6]) (by kernel_rfl) (by simp) (AllReadyH.cons rfl (fun K hK => ?_) AllReadyH.nil)
    try simp only [List.getElem_toArray, List.getElem_cons_zero, List.getElem_cons_succ]
    refine if_wanted (by rfl) ?_
    refine wp_append_txt _ (.tmp 11) (.tmp 14) 30 rfl v0.heap.size 5 j0 (.int .u8 0) 1 Try.underlying30 HI.out.1 HI.out.2.1 HI.out.2.2.1 HI.out.2.2.2 rfl _ (Cd.num sz).length (nums (Cd.num sz)) rfl H2.out.1 _ a2 (Cd.num ch).length c2' (Cd.num ch) rfl H2.out.2.2.2 (by have := HL.out; unfold maxLen; omega) (by have := HL.out; omega) hgv2 ?_
    intro x3 v3 hown3 hg3 _
    rw [← nums_append, ← List.length_append] at hown3
    have hb3 : Below w.heap.size w v3 := H2.out.2.1.grown hg3 (Nat.le_of_lt hlt3) (fun b hb => Nat.le_trans (Nat.le_of_lt hltD) (own_ge H2.out.1 b hb))
    have kw3 : Whole v3 w.heap.size 26 P := H2.out.2.2.1.grown hg3 (fun e => by have := own_ge H2.out.1 _ e.symm; omega)
    have H3 := Lib.hid (And.intro hown3 (And.intro hb3 kw3))
    have hlt4 : w.heap.size < v3.heap.size := kw3.lt
    have hgv3 : v0.heap.size ≤ v3.heap.size := Nat.le_trans hgv2 hg3.size
    clear hown3 hb3 kw3 hg3
    refine hK.out _ _ ⟨by rw [H3.out.2.2.cell]; exact c0, by rw [H3.out.2.2.cell]; exact c1⟩ (fun hHeld => ?_)
    clear hK K
    try simp only [Act.put, List.getElem_toArray, List.getElem_cons_zero, List.getElem_cons_succ, List.setIfInBounds_toArray, List.set_cons_zero, List.set_cons_succ]
    refine wpAnyH_ready (rs := [7]) (by kernel_rfl) (by simp) (AllReadyH.cons rfl (fun K hK => ?_) AllReadyH.nil)
    try simp only [List.getElem_toArray, List.getElem_cons_zero, List.getElem_cons_succ]
    go_simp
    refine hK.out _ _ ⟨by rw [H3.out.2.2.cell]; exact c0, by rw [H3.out.2.2.cell]; exact c1⟩ (fun hHeld => ?_)
    clear hK K
    try simp only [Act.put, List.getElem_toArray, List.getElem_cons_zero, List.getElem_cons_succ, List.setIfInBounds_toArray, List.set_cons_zero, List.set_cons_succ]
    refine wpAnyH_done (by kernel_rfl) ?_ _
    have hltv : w.heap.size < v0.heap.size := hltD
    obtain ⟨hd, hhd⟩ : ∃ hd, Cd.num sz ++ Cd.num ch = hd := ⟨_, rfl⟩
    rw [hhd] at H3
    have HHD := Lib.hid (And.intro hhd (show hd.length ≤ 20 by have := HL.out; rw [← hhd, List.length_append]; omega))
    clear hhd H1 H2
    go_wp2
    go_loopw [4, 5] (fun x i wr => ∃ k : Nat, k ≤ n ∧ i = .int .i64 (k : Int) ∧ Hid (wr.ownsRow v0.heap.size 5 1 x (hd ++ (m.ds.take k).flatten).length (nums (hd ++ (m.ds.take k).flatten)) ∧ Below w.heap.size w wr ∧ Whole wr w.heap.size 26 P ∧ v0.heap.size ≤ wr.heap.size)) (fun _ i _ => n - (intOf i).toNat)
    case atStart => exact ⟨0, Nat.zero_le _, rfl, Lib.hid ⟨by simpa using H3.out.1, H3.out.2.1, H3.out.2.2, hgv3⟩⟩
    case round =>
      obtain ⟨k, hk, rfl, HK4⟩ := hrel
      have k2 : wr.cell? ⟨w.heap.size, 2, none⟩ = some (.slice a n c) := by rw [HK4.out.2.2.1.cell]; exact c2
      have HLF : Hid ((m.ds.take k).flatten.length ≤ 3000) := Lib.hid (by
        have h1 := Mf.flatten_len (ds := m.ds.take k) (fun d hd => HDG.out.2.1 d (List.mem_of_mem_take hd))
        rw [h1, List.length_take]; omega)
      by_cases hlt : k < n
      · obtain ⟨b, off, rfl, hbS, hbl, hrg, hdg⟩ := HDG.out.cell_at hlt
        have HRG := Lib.hid (range_below hrg HK4.out.2.1 hbl)
        have HFS := Lib.hid (flat_snoc m.ds k (by rw [HLN.out]; exact hlt))
        generalize m.ds.getD k [] = d at *
        have HDD := Lib.hid hdg
        have hsl := slice_32
        have HT := Lib.hid (txt_range (S := fun _ => True) trivial (Nat.lt_of_lt_of_le hbl HK4.out.2.1.size) HRG.out HDD.out)
        clear hrg hdg
        go_wp2_with (at_builtin; refine wpList_append_txt _ rfl (.tmp 23) (.tmp 28) 30 rfl v0.heap.size 5 j0 (.int .u8 0) 1 Try.underlying30 HI.out.1 HI.out.2.1 HI.out.2.2.1 HI.out.2.2.2 rfl _ (hd ++ (m.ds.take k).flatten).length _ rfl HK4.out.1 _ _ 32 32 d rfl HT.out (by have h1 := HLF.out; have h2 := HHD.out.2; rw [List.length_append]; unfold maxLen; omega) (by have h1 := HLF.out; have h2 := HHD.out.2; rw [List.length_append]; omega) HK4.out.2.2.2 ?_; intro x5 w5 hown5 hg5 _)
        rw [← nums_append, List.append_assoc, ← HFS.out] at hown5
        have hb5 : Below w.heap.size w w5 := HK4.out.2.1.grown hg5 HK4.out.2.1.size (fun b hb => Nat.le_trans (Nat.le_of_lt hltv) (own_ge HK4.out.1 b hb))
        have kw5 : Whole w5 w.heap.size 26 P := HK4.out.2.2.1.grown hg5 (fun e => by have := own_ge HK4.out.1 _ e.symm; omega)
        have hl5 : (hd ++ (m.ds.take k).flatten).length + 32 = (hd ++ (m.ds.take (k + 1)).flatten).length := by rw [HFS.out]; simp [HDD.out.1]; omega
        rw [hl5] at hown5
        exact ⟨⟨k + 1, by omega, by go_num, Lib.hid ⟨hown5, hb5, kw5, Nat.le_trans HK4.out.2.2.2 hg5.size⟩⟩, by simp [intOf]; omega⟩
      · obtain rfl : k = n := by omega
        have hnd : (nums m.wh).length = 32 := by rw [nums_len, HWH.out.1]
        have HRG := Lib.hid (tail_range HK4.out.2.2.1 ct.out)
        have HT := Lib.hid (txt_range (S := fun _ => True) trivial HK4.out.2.2.1.lt HRG.out HWH.out)
        have hsl := slice_32
        go_wp2_with (at_builtin; refine wpList_append_txt _ rfl (.tmp 30) (.tmp 32) 30 rfl v0.heap.size 5 j0 (.int .u8 0) 1 Try.underlying30 HI.out.1 HI.out.2.1 HI.out.2.2.1 HI.out.2.2.2 rfl _ (hd ++ (m.ds.take k).flatten).length _ rfl HK4.out.1 _ _ 32 32 m.wh rfl HT.out (by have h1 := HLF.out; have h2 := HHD.out.2; rw [List.length_append]; unfold maxLen; omega) (by have h1 := HLF.out; have h2 := HHD.out.2; rw [List.length_append]; omega) HK4.out.2.2.2 ?_; intro x5 w5 hown5 hg5 _)
        have hbe : hd ++ (m.ds.take k).flatten ++ m.wh = Mf.body m := by
          rw [HBODY.out, ← HHD.out.1, List.take_of_length_le (by rw [HLN.out]; omega)]
          simp
        have hle : (hd ++ (m.ds.take k).flatten).length + 32 = (Mf.body m).length := by rw [← hbe]; simp [HWH.out.1]; omega
        rw [← nums_append, hbe, hle] at hown5
        have hby : Byt (Mf.body m) := by
          rw [HBODY.out]
          exact byt_append (Cd.byt_num sz) (byt_append (Cd.byt_num ch) (byt_append (Mf.byt_flatten HDG.out.2.1) HWH.out.2))
        have hb5 : Below w.heap.size w w5 := HK4.out.2.1.grown hg5 HK4.out.2.1.size (fun b hb => Nat.le_trans (Nat.le_of_lt hltv) (own_ge HK4.out.1 b hb))
        obtain ⟨a6, c6, rfl, ht6⟩ := Txt.own hown5 hby
        have H6 := Lib.hid (And.intro (ht6.weak (S' := (w.heap.size ≤ ·)) (fun b _ h => Nat.le_trans (Nat.le_of_lt hltv) h)) hb5)
        clear hown5 hb5 ht6 hg5 hby hbe hle
        go_wp2
        go_ret2
        exact ⟨Or.inr ⟨HNB.out, _, _, _, rfl, H6.out.1⟩, H6.out.2⟩
end Go.Proofs.Ytcfchkffanfehaa
namespace Go.Proofs.Ytcfchkffanfehaa
set_option maxRecDepth 20000
set_option linter.unusedSimpArgs false
open Go.RowKit
theorem wpList_load_midG {P : Program} {ops : Array Oper} {rest : List Oper} {op : Oper} {a : Act} {w : World} {Q : Exit → Act → World → Prop} (hgd : Region.wanted op (yielded ops a.tmps) = true) (ty : TypeId) (x : Operand) (ho : op.op = .load ty x)
    (b o : Nat) (hx : a.eval x = .pointer (some ⟨b, o, none⟩)) (cs : List Value) (d : TypeDesc) (hc : w.rangeAt b o cs)
    (hu : P.underlying ty = some d) (hd : d.isRow = true) (hi : (P.info? ty).map (·.size) = some cs.length)
    (h : wpList P ops Q rest (a.put op.dst (.agg cs.toArray)) w) : wpList P ops Q (op :: rest) a w :=
  wpList_step fun _ hK => by rw [if_pos hgd]; exact wp_load_mid ty x ho b o hx cs d hc hu hd hi (hK _ _ h)
set_option maxHeartbeats 4000000 in
theorem same_eq {w : World} {S S' : Nat → Prop} {v v' : Value} {m : Mf.Man} (h : Mv w S v m) (h' : Mv w S' v' m) (hn : m.ds.length ≤ 1000) :
    Calls Try.prog 43 #[v, v'] w fun e w' => e = .returned (.bool true) ∧ Below w.heap.size w w' := by
  obtain ⟨a, n, c, rfl, hnc, hd, hw, hs, hc⟩ := h
  obtain ⟨a', n', c', rfl, hnc', hd', _, _, _⟩ := h'
  have hnn : n' = n := by rw [← hd.1, ← hd'.1]
  subst hnn
  have hn1 : n' ≤ 1000 := by rw [← hd.1]; exact hn
  have HDG := Lib.hid hd.old
  have HDG' := Lib.hid hd'.old
  have c0 : (mcs m.size m.chunk (.slice a n' c) m.wh).toArray[0]? = some (.int .i64 m.size) := rfl
  have c1 : (mcs m.size m.chunk (.slice a n' c) m.wh).toArray[1]? = some (.int .i64 m.chunk) := rfl
  have c2 : (mcs m.size m.chunk (.slice a n' c) m.wh).toArray[2]? = some (.slice a n' c) := rfl
  have ct := Lib.hid (mcs_tail (s := m.size) (c := m.chunk) (x := .slice a n' c) (h := m.wh))
  have e0 : (mcs m.size m.chunk (.slice a' n' c') m.wh).toArray[0]? = some (.int .i64 m.size) := rfl
  have e1 : (mcs m.size m.chunk (.slice a' n' c') m.wh).toArray[1]? = some (.int .i64 m.chunk) := rfl
  have e2 : (mcs m.size m.chunk (.slice a' n' c') m.wh).toArray[2]? = some (.slice a' n' c') := rfl
  have et := Lib.hid (mcs_tail (s := m.size) (c := m.chunk) (x := .slice a' n' c') (h := m.wh))
  have hnd : (nums m.wh).length = 32 := by rw [nums_len, hw.1]
  have hi32 : (Try.prog.info? 24).map (·.size) = some (nums m.wh).length := by rw [hnd]; exact info32
  have HQ : ∀ w : World, (Op.equalIn 10000 24 (.agg (nums m.wh).toArray) (.agg (nums m.wh).toArray)).run Try.prog w = .ok true w := fun w => by
    have h := equal32 9999 (fun a b w => run_equalIn_int w 9998 5 .u8 .u8 a b Try.underlying5) m.wh m.wh hw.1 hw.1 w
    rw [h, decide_eq_true rfl]
  clear hd hd' hw hs hc hnc hnc' hn hnd
  generalize (mcs m.size m.chunk (.slice a n' c) m.wh).toArray = P at *
  generalize (mcs m.size m.chunk (.slice a' n' c') m.wh).toArray = P' at *
  generalize nums m.wh = nw at *
  generalize m.size = sz at *
  generalize m.chunk = ch at *
  have kw : Whole ((w.alloc (.cells P 26)).alloc (.cells P' 26)) w.heap.size 26 P := (Whole.new w 26 P).alloc _
  have kr : Whole ((w.alloc (.cells P 26)).alloc (.cells P' 26)) (w.heap.size + 1) 26 P' := by
    have h := Whole.new (w.alloc (.cells P 26)) 26 P'
    rw [size_alloc] at h; exact h
  have HRG : Hid (((w.alloc (.cells P 26)).alloc (.cells P' 26)).rangeAt w.heap.size 3 nw) := Lib.hid (tail_range kw ct.out)
  have HRG' : Hid (((w.alloc (.cells P 26)).alloc (.cells P' 26)).rangeAt (w.heap.size + 1) 3 nw) := Lib.hid (tail_range kr et.out)
  have H2 : Hid (Whole ((w.alloc (.cells P 26)).alloc (.cells P' 26)) w.heap.size 26 P ∧ Whole ((w.alloc (.cells P 26)).alloc (.cells P' 26)) (w.heap.size + 1) 26 P' ∧ Below w.heap.size w ((w.alloc (.cells P 26)).alloc (.cells P' 26))) := Lib.hid ⟨kw, kr, below_two w _ _⟩
  clear kw kr
  go_enter Try.func43, Try.ntmps43
  go_wp2_with (first
    | ((with_reducible show wpList _ _ _ ((⟨_, Op.load 24 (.tmp 19), _, _, _, _⟩ : Oper) :: _) _ _); refine wpList_load_midG (by rfl) _ (.tmp 19) rfl w.heap.size 3 rfl nw _ HRG.out und32 rfl hi32 ?_)
    | ((with_reducible show wpList _ _ _ ((⟨_, Op.load 24 (.tmp 21), _, _, _, _⟩ : Oper) :: _) _ _); refine wpList_load_midG (by rfl) _ (.tmp 21) rfl (w.heap.size + 1) 3 rfl nw _ HRG'.out und32 rfl hi32 ?_))
  clear HRG HRG' HQ ct et hi32
  generalize (w.alloc (.cells P 26)).alloc (.cells P' 26) = w2 at *
  go_loopw [5] (fun i wr => ∃ k : Nat, k ≤ n' ∧ i = .int .i64 (k : Int) ∧ Hid (Whole wr w.heap.size 26 P ∧ Whole wr (w.heap.size + 1) 26 P' ∧ Below w.heap.size w wr)) (fun i _ => n' - (intOf i).toNat)
  case atStart => exact ⟨0, Nat.zero_le _, rfl, H2⟩
  case round =>
    obtain ⟨k, hk, rfl, HK⟩ := hrel
    have k2 : wr.cell? ⟨w.heap.size, 2, none⟩ = some (.slice a n' c) := by rw [HK.out.1.cell]; exact c2
    have k3 : wr.cell? ⟨w.heap.size + 1, 2, none⟩ = some (.slice a' n' c') := by rw [HK.out.2.1.cell]; exact e2
    by_cases hlt : k < n'
    · obtain ⟨b, off, rfl, hbS, hbl, hrg, hdg⟩ := HDG.out.cell_at hlt
      obtain ⟨b', off', rfl, hbS', hbl', hrg', _⟩ := HDG'.out.cell_at hlt
      have rg1 : wr.drew.rangeAt b (off + k * 32) _ := range_below hrg HK.out.2.2.drew hbl
      have rg2 : wr.drew.rangeAt b' (off' + k * 32) _ := range_below hrg' HK.out.2.2.drew hbl'
      have HKD := Lib.hid (show Whole wr.drew w.heap.size 26 P ∧ Whole wr.drew (w.heap.size + 1) 26 P' ∧ Below w.heap.size w wr.drew from ⟨HK.out.1, HK.out.2.1, HK.out.2.2.drew⟩)
      have k21 : wr.drew.cell? ⟨w.heap.size, 2, none⟩ = _ := k2
      have k31 : wr.drew.cell? ⟨w.heap.size + 1, 2, none⟩ = _ := k3
      generalize m.ds.getD k [] = d at *
      have hnd : (nums d).length = 32 := by rw [nums_len, hdg.1]
      have hi32 : (Try.prog.info? 24).map (·.size) = some (nums d).length := by rw [hnd]; exact info32
      have hu := und32
      have HQ : ∀ w : World, (Op.equalIn 10000 24 (.agg (nums d).toArray) (.agg (nums d).toArray)).run Try.prog w = .ok true w := fun w => by
        have h := equal32 9999 (fun a b w => run_equalIn_int w 9998 5 .u8 .u8 a b Try.underlying5) d d hdg.1 hdg.1 w
        rw [h, decide_eq_true rfl]
      clear hdg hrg hrg' hnd
      generalize nums d = nd at *
      go_wp2
      refine wp_region_held_drew (S := fun w' => w'.cell? ⟨w.heap.size, 2, none⟩ = some (.slice (some ⟨b, off, none⟩) n' c) ∧ w'.cell? ⟨w.heap.size + 1, 2, none⟩ = some (.slice (some ⟨b', off', none⟩) n' c') ∧ w'.rangeAt b (off + k * 32) nd ∧ w'.rangeAt b' (off' + k * 32) nd) (by kernel_rfl) ⟨k21, k31, rg1, rg2⟩ (fun hHeld => ?_)
      refine wpAnyH_take (i := 0) (v := .pointer (some ⟨w.heap.size, 2, none⟩)) rfl (by kernel_rfl) (by kernel_rfl) (by kernel_rfl) (fun _ _ _ h => h) (Or.inl ⟨by rfl, (by intro w hSw; (try dsimp only at hSw); go_simp)⟩) (by assumption) ?_
      try simp only [Act.put, List.getElem_toArray, List.getElem_cons_zero, List.getElem_cons_succ, List.setIfInBounds_toArray, List.set_cons_zero, List.set_cons_succ]
      refine wpAnyH_take (i := 1) (v := .slice (some ⟨b, off, none⟩) n' c) rfl (by kernel_rfl) (by kernel_rfl) (by kernel_rfl) (fun _ _ _ h => h) (Or.inl ⟨by rfl, (by intro w hSw; (try dsimp only at hSw); go_simp)⟩) (by assumption) ?_
      try simp only [Act.put, List.getElem_toArray, List.getElem_cons_zero, List.getElem_cons_succ, List.setIfInBounds_toArray, List.set_cons_zero, List.set_cons_succ]
      refine wpAnyH_take (i := 2) (v := .int .i64 (k : Int)) rfl (by kernel_rfl) (by kernel_rfl) (by kernel_rfl) (fun _ _ _ h => h) (Or.inl ⟨by rfl, (by intro w hSw; (try dsimp only at hSw); go_simp)⟩) (by assumption) ?_
      try simp only [Act.put, List.getElem_toArray, List.getElem_cons_zero, List.getElem_cons_succ, List.setIfInBounds_toArray, List.set_cons_zero, List.set_cons_succ]
      refine wpAnyH_take (i := 3) (v := .pointer (some ⟨b, off + k * 32, none⟩)) rfl (by kernel_rfl) (by kernel_rfl) (by kernel_rfl) (fun _ _ _ h => h) (Or.inl ⟨by rfl, (by intro w hSw; (try dsimp only at hSw); go_simp)⟩) (by assumption) ?_
      try simp only [Act.put, List.getElem_toArray, List.getElem_cons_zero, List.getElem_cons_succ, List.setIfInBounds_toArray, List.set_cons_zero, List.set_cons_succ]
      refine wpAnyH_take (i := 4) (v := .agg nd.toArray) rfl (by kernel_rfl) (by kernel_rfl) (by kernel_rfl) (fun _ _ _ h => h) (yieldsIf_load_mid (by rfl) _ _ rfl _ _ rfl _ _ (fun w hSw => hSw.2.2.1) hu rfl hi32) (by assumption) ?_
      try simp only [Act.put, List.getElem_toArray, List.getElem_cons_zero, List.getElem_cons_succ, List.setIfInBounds_toArray, List.set_cons_zero, List.set_cons_succ]
      refine wpAnyH_take (i := 5) (v := .pointer (some ⟨w.heap.size + 1, 2, none⟩)) rfl (by kernel_rfl) (by kernel_rfl) (by kernel_rfl) (fun _ _ _ h => h) (Or.inl ⟨by rfl, (by intro w hSw; (try dsimp only at hSw); go_simp)⟩) (by assumption) ?_
      try simp only [Act.put, List.getElem_toArray, List.getElem_cons_zero, List.getElem_cons_succ, List.setIfInBounds_toArray, List.set_cons_zero, List.set_cons_succ]
      refine wpAnyH_take (i := 6) (v := .slice (some ⟨b', off', none⟩) n' c') rfl (by kernel_rfl) (by kernel_rfl) (by kernel_rfl) (fun _ _ _ h => h) (Or.inl ⟨by rfl, (by intro w hSw; (try dsimp only at hSw); go_simp)⟩) (by assumption) ?_
      try simp only [Act.put, List.getElem_toArray, List.getElem_cons_zero, List.getElem_cons_succ, List.setIfInBounds_toArray, List.set_cons_zero, List.set_cons_succ]
      refine wpAnyH_take (i := 7) (v := .int .i64 (k : Int)) rfl (by kernel_rfl) (by kernel_rfl) (by kernel_rfl) (fun _ _ _ h => h) (Or.inl ⟨by rfl, (by intro w hSw; (try dsimp only at hSw); go_simp)⟩) (by assumption) ?_
      try simp only [Act.put, List.getElem_toArray, List.getElem_cons_zero, List.getElem_cons_succ, List.setIfInBounds_toArray, List.set_cons_zero, List.set_cons_succ]
      refine wpAnyH_take (i := 8) (v := .pointer (some ⟨b', off' + k * 32, none⟩)) rfl (by kernel_rfl) (by kernel_rfl) (by kernel_rfl) (fun _ _ _ h => h) (Or.inl ⟨by rfl, (by intro w hSw; (try dsimp only at hSw); go_simp)⟩) (by assumption) ?_
      try simp only [Act.put, List.getElem_toArray, List.getElem_cons_zero, List.getElem_cons_succ, List.setIfInBounds_toArray, List.set_cons_zero, List.set_cons_succ]
      refine wpAnyH_take (i := 9) (v := .agg nd.toArray) rfl (by kernel_rfl) (by kernel_rfl) (by kernel_rfl) (fun _ _ _ h => h) (yieldsIf_load_mid (by rfl) _ _ rfl _ _ rfl _ _ (fun w hSw => hSw.2.2.2) hu rfl hi32) (by assumption) ?_
      try simp only [Act.put, List.getElem_toArray, List.getElem_cons_zero, List.getElem_cons_succ, List.setIfInBounds_toArray, List.set_cons_zero, List.set_cons_succ]
      refine wpAnyH_take (i := 10) (v := .bool false) rfl (by kernel_rfl) (by kernel_rfl) (by kernel_rfl) (fun _ _ _ h => h) (Or.inl ⟨by rfl, (by intro w hSw; (try dsimp only at hSw); go_simp)⟩) (by assumption) ?_
      try simp only [Act.put, List.getElem_toArray, List.getElem_cons_zero, List.getElem_cons_succ, List.setIfInBounds_toArray, List.set_cons_zero, List.set_cons_succ]
      refine wpAnyH_done (by kernel_rfl) ?_ _
      go_wp2
      exact ⟨⟨k + 1, by omega, by go_num, HKD⟩, by simp [intOf]; omega⟩
    · obtain rfl : k = n' := by omega
      go_wp2
      go_ret
      exact ⟨rfl, HK.out.2.2⟩
end Go.Proofs.Ytcfchkffanfehaa
namespace Go.Proofs.Ytcfchkffanfehaa
set_option maxRecDepth 20000
set_option linter.unusedSimpArgs false
open Go.RowKit
end Go.Proofs.Ytcfchkffanfehaa
namespace Mf
def bld (img : List Int) (c : Int) : Man := if cnt img.length c = 0 then zero else made img c
def berr (img : List Int) (c : Int) : Int := if cnt img.length c = 0 then 1 else 0
theorem ck_len (img : List Int) (c k : Nat) : (ck img c k).length = min c (img.length - k * c) := by simp [ck]
theorem ck_pos {img : List Int} {c k N : Nat} (hN : ((N : Int) - 1) * c < img.length) (hc : 1 ≤ c) (hk : k < N) : 0 < (ck img c k).length := by
  rw [ck_len]
  have h1 : (k : Int) * c ≤ ((N : Int) - 1) * c := Int.mul_le_mul_of_nonneg_right (by omega) (by omega)
  have h2 : ((k * c : Nat) : Int) = (k : Int) * c := by push_cast; rfl
  omega
theorem ck_none {img : List Int} {c N : Nat} (hN : (img.length : Int) ≤ (N : Int) * c) : (ck img c N).length = 0 := by
  rw [ck_len]
  have h2 : ((N * c : Nat) : Int) = (N : Int) * c := by push_cast; rfl
  omega
theorem ck_take (img : List Int) (c k : Nat) : (img.drop (k * c)).take c = ck img c k := rfl
theorem ck_drop (img : List Int) (c k : Nat) : (img.drop (k * c)).drop c = img.drop ((k + 1) * c) := by rw [List.drop_drop, Nat.add_mul, Nat.one_mul]
end Mf
namespace Go.Proofs.Ytcfchkffanfehaa
set_option maxRecDepth 20000
set_option linter.unusedSimpArgs false
open Go.RowKit
theorem built_szw32 (s c h0 h1 h2 h3 h4 h5 h6 h7 h8 h9 h10 h11 h12 h13 h14 h15 h16 h17 h18 h19 h20 h21 h22 h23 h24 h25 h26 h27 h28 h29 h30 h31 : Int) : Try.prog.built 26 [(0, .int .i64 s), (1, .int .i64 c), (3, .agg (nums [h0, h1, h2, h3, h4, h5, h6, h7, h8, h9, h10, h11, h12, h13, h14, h15, h16, h17, h18, h19, h20, h21, h22, h23, h24, h25, h26, h27, h28, h29, h30, h31]).toArray)] = some (mcs s c (.slice none 0 0) [h0, h1, h2, h3, h4, h5, h6, h7, h8, h9, h10, h11, h12, h13, h14, h15, h16, h17, h18, h19, h20, h21, h22, h23, h24, h25, h26, h27, h28, h29, h30, h31]).toArray := by kernel_rfl
theorem built_szw (s c : Int) (h : List Int) (hh : h.length = 32) : Try.prog.built 26 [(0, .int .i64 s), (1, .int .i64 c), (3, .agg (nums h).toArray)] = some (mcs s c (.slice none 0 0) h).toArray := by
  match h, hh with
  | [h0, h1, h2, h3, h4, h5, h6, h7, h8, h9, h10, h11, h12, h13, h14, h15, h16, h17, h18, h19, h20, h21, h22, h23, h24, h25, h26, h27, h28, h29, h30, h31], _ => exact built_szw32 s c h0 h1 h2 h3 h4 h5 h6 h7 h8 h9 h10 h11 h12 h13 h14 h15 h16 h17 h18 h19 h20 h21 h22 h23 h24 h25 h26 h27 h28 h29 h30 h31
theorem built_sz (s c : Int) : Try.prog.built 26 [(0, .int .i64 s), (1, .int .i64 c)] = some (mcs s c (.slice none 0 0) (zs 32)).toArray := by kernel_rfl
theorem built_nil : Try.prog.built 26 [] = some (mcs 0 0 (.slice none 0 0) (zs 32)).toArray := by kernel_rfl
theorem zeroM : #[Value.int IntKind.i64 0, Value.int IntKind.i64 0, Value.slice none 0 0, Value.int IntKind.u8 0, Value.int IntKind.u8 0, Value.int IntKind.u8 0, Value.int IntKind.u8 0, Value.int IntKind.u8 0, Value.int IntKind.u8 0, Value.int IntKind.u8 0, Value.int IntKind.u8 0, Value.int IntKind.u8 0, Value.int IntKind.u8 0, Value.int IntKind.u8 0, Value.int IntKind.u8 0, Value.int IntKind.u8 0, Value.int IntKind.u8 0, Value.int IntKind.u8 0, Value.int IntKind.u8 0, Value.int IntKind.u8 0, Value.int IntKind.u8 0, Value.int IntKind.u8 0, Value.int IntKind.u8 0, Value.int IntKind.u8 0, Value.int IntKind.u8 0, Value.int IntKind.u8 0, Value.int IntKind.u8 0, Value.int IntKind.u8 0, Value.int IntKind.u8 0, Value.int IntKind.u8 0, Value.int IntKind.u8 0, Value.int IntKind.u8 0, Value.int IntKind.u8 0, Value.int IntKind.u8 0, Value.int IntKind.u8 0] = (mcs 0 0 (.slice none 0 0) (zs 32)).toArray := rfl
/-- The zero manifest's cells. -/
def zm : Array Value := (mcs 0 0 (.slice none 0 0) (zs 32)).toArray
theorem zm_size : zm.size = 35 := rfl
theorem zm_mv (w : World) (S : Nat → Prop) : Mv w S (.agg zm) Mf.zero := ⟨none, 0, 0, rfl, Nat.le_refl _, Digs.nil _ _ _, ⟨rfl, byt_zeros 32⟩, ⟨by decide, by decide⟩, ⟨by decide, by decide⟩⟩
theorem results_cell_one {fn : Func} {p u : Tmp} {ty : TypeId} (h : fn.results = #[.cell p ty, .tmp u]) (tmps : Array Value) (P : Program) (w : World) (a : Addr) {v : Value} (ht : tmps.getD p undef = .pointer (some a)) (hv : (loadVar ty a).run P w = .ok v w) :
    (results fn tmps).run P w = .ok (.tuple #[v, tmps.getD u undef]) w := by
  rw [results_cell_tmp h, ht]
  simp [asAddr, hv]
theorem loadVar35 {w : World} {b : Nat} {t : TypeId} {cs : Array Value} (h : Whole w b t cs) (hs : cs.size = 35) : (loadVar 26 ⟨b, 0, none⟩).run Try.prog w = .ok (.agg cs) w :=
  run_loadVar_row w b t _ cs (0, 0) _ h Try.underlying26 rfl (by rw [hs]; exact info35)
/-- What Build answers. -/
def Bldd (w : World) (img : List Int) (c : Int) (e : Ending) (w' : World) : Prop :=
  (∃ v, e = .returned (.tuple #[v, .int .i64 (Mf.berr img c)]) ∧ Mv w' (w.heap.size ≤ ·) v (Mf.bld img c)) ∧ Below w.heap.size w w'
/-- What holds while an image's chunks are told: k of them are, the rest begins with the chunk j. -/
structure Bst (w : World) (Bo M R C : Nat) (img : List Int) (ch k j : Nat) (s : Value) (wr : World) : Prop where
  m : Whole wr M 26 (mcs img.length ch s (Sm.dig img)).toArray
  own : wr.ownsRow Bo 24 32 s k (nums (Mf.digsTo img ch k).flatten)
  r : ∃ a n c, Whole wr R 30 #[.slice a n c] ∧ Txt w (· < w.heap.size) a n c (img.drop (j * ch))
  c : Whole wr C 3 #[.int .i64 (ch : Int)]
  z : Whole wr w.heap.size 26 zm
  b : Below w.heap.size w wr
  hb : Bo ≤ wr.heap.size
  lt : w.heap.size < M ∧ M < R ∧ M < C ∧ R < Bo ∧ C < Bo ∧ R ≠ C
theorem Bst.below {w : World} {Bo M R C : Nat} {img : List Int} {ch k j : Nat} {s : Value} {wr w' : World} (h : Bst w Bo M R C img ch k j s wr) (hb : Below wr.heap.size wr w') : Bst w Bo M R C img ch k j s w' := by
  obtain ⟨a, n, c, h1, h2⟩ := h.r
  exact ⟨h.m.below hb h.m.lt, own_keep h.own (fun b hq => hb.block b (own_lt h.own b hq)), ⟨a, n, c, h1.below hb h1.lt, h2⟩, h.c.below hb h.c.lt, h.z.below hb h.z.lt, h.b.trans (hb.mono h.b.size), Nat.le_trans h.hb hb.size, h.lt⟩
/-- Behind the append, and the store of it. -/
theorem Bst.stored {w : World} {Bo M R C : Nat} {img : List Int} {ch k j : Nat} {s s' : Value} {wr w' : World} (h : Bst w Bo M R C img ch k j s wr) (hg : wr.grownBy w' s.ownBlock)
    (hown : w'.ownsRow Bo 24 32 s' (k + 1) (nums (Mf.digsTo img ch (k + 1)).flatten)) : Bst w Bo M R C img ch (k + 1) j s' (w'.setCell ⟨M, 2, none⟩ s') := by
  obtain ⟨l1, l2, l3, l4, l5, l6⟩ := h.lt
  have hge : ∀ b, s.ownBlock = some b → Bo ≤ b := own_ge h.own
  have far : ∀ q, q < Bo → some q ≠ s.ownBlock := fun q hq e => by have := hge q e.symm; omega
  have hge' : ∀ b, s'.ownBlock = some b → Bo ≤ b := own_ge hown
  obtain ⟨a, n, c, h1, h2⟩ := h.r
  refine ⟨?_, own_keep hown (fun b hq => Below.heap_setCell w' ⟨M, 2, none⟩ s' b (by have := hge' b hq; show b ≠ M; omega)), ⟨a, n, c, (h1.grown hg (far R l4)).far (by show R ≠ M; omega) _, h2⟩, (h.c.grown hg (far C l5)).far (by show C ≠ M; omega) _, (h.z.grown hg (far _ (by omega))).far (by show w.heap.size ≠ M; omega) _, ?_, ?_, h.lt⟩
  · have h3 := (h.m.grown hg (far M (by omega))).set 2 s'
    exact h3
  · exact (h.b.grown hg h.b.size (fun b hq => Nat.le_trans (by omega) (hge b hq))).setCell (by show w.heap.size ≤ M; omega) _
  · have := hg.size; simp; exact Nat.le_trans h.hb this
theorem Bst.next {w : World} {Bo M R C : Nat} {img : List Int} {ch k j : Nat} {s : Value} {wr : World} {a : Option Addr} {n c : Nat} (h : Bst w Bo M R C img ch k j s wr) (ht : Txt w (· < w.heap.size) a n c (img.drop ((j + 1) * ch))) : Bst w Bo M R C img ch k (j + 1) s (wr.setCell ⟨R, 0, none⟩ (.slice a n c)) := by
  obtain ⟨l1, l2, l3, l4, l5, l6⟩ := h.lt
  obtain ⟨a', n', c', h1, h2⟩ := h.r
  refine ⟨h.m.far (by show M ≠ R; omega) _, own_keep h.own (fun b hq => Below.heap_setCell wr ⟨R, 0, none⟩ _ b (by have := own_ge h.own b hq; show b ≠ R; omega)), ⟨a, n, c, h1.set 0 _, ht⟩, h.c.far (by show C ≠ R; omega) _, h.z.far (by show w.heap.size ≠ R; omega) _, h.b.setCell (by show w.heap.size ≤ R; omega) _, by simp; exact h.hb, h.lt⟩
def lenV : Value → Nat
  | .slice _ n _ => n
  | _ => 0
def lenAt (w : World) (R : Nat) : Nat := match w.cell? ⟨R, 0, none⟩ with
  | some v => lenV v
  | none => 0
theorem Bst.rest {w : World} {Bo M R C : Nat} {img : List Int} {ch k j : Nat} {s : Value} {wr : World} (h : Bst w Bo M R C img ch k j s wr) : lenAt wr R = (img.drop (j * ch)).length := by
  obtain ⟨a, n, c, h1, h2⟩ := h.r
  unfold lenAt
  rw [h1.cell 0]
  exact h2.1.symm
theorem take_drop_len (l : List Int) (k : Nat) : (l.take k).length + (l.drop k).length = l.length := by
  rw [List.length_take, List.length_drop]; omega
theorem bld_zero {img : List Int} {c : Int} (h : Mf.cnt img.length c = 0) : Mf.bld img c = Mf.zero ∧ Mf.berr img c = 1 := by
  unfold Mf.bld Mf.berr; rw [if_pos h, if_pos h]; exact ⟨rfl, rfl⟩
theorem bld_made {img : List Int} {c : Int} (h : Mf.cnt img.length c ≠ 0) : Mf.bld img c = Mf.made img c ∧ Mf.berr img c = 0 := by
  unfold Mf.bld Mf.berr; rw [if_neg h, if_neg h]; exact ⟨rfl, rfl⟩
end Go.Proofs.Ytcfchkffanfehaa
namespace Go.Proofs.Ytcfchkffanfehaa
set_option maxRecDepth 20000
set_option linter.unusedSimpArgs false
open Go.RowKit
theorem wpList_store_part {P : Program} {ops : Array Oper} {rest : List Oper} {op : Oper} {a : Act} {w : World} {Q : Exit → Act → World → Prop} (hgd : op.guard = none) {n : TypeId} {cur : List Value} (ty : TypeId) (x y : Operand) (ho : op.op = .store ty x y)
    (g o : Nat) (cells : List Value) (hx : a.eval x = .pointer (some ⟨g, o, none⟩)) (hy : a.eval y = .agg cells.toArray)
    (hg : Whole w g n cur.toArray) (hi : (P.info? ty).map (·.size) = some cells.length) (h1 : ∀ v ∈ cells, v.oneCell' = true) (hf : o + cells.length ≤ cur.length)
    (h : wpList P ops Q rest (a.put op.dst undef) (w.setRow g (splice cur o cells).toArray)) : wpList P ops Q (op :: rest) a w :=
  wpList_plain hgd fun _ hK => wp_store_part ty x y ho g o cells hx hy hg hi h1 hf (hK _ _ h)
theorem yields_man {ops : Array Oper} {S : World → Prop} {o : Oper} {a : Act} (hw : Region.wanted o (yielded ops a.tmps) = true) (parts : List (Nat × Operand)) (ho : o.op = .build 26 parts.toArray)
    (vs : List (Nat × Value)) (hv : parts.map (fun q => (q.1, a.eval q.2)) = vs) (cells : List Value) (hc : Try.prog.built 26 vs = some cells.toArray) : YieldsIf Try.prog ops S o (.agg cells.toArray) a := by
  have e : (parts.toArray.map fun (i, x) => (i, a.eval x)).toList = vs := by rw [← hv]; simp
  refine Or.inl ⟨hw, fun w _ => ?_⟩
  unfold execOp
  simp only [ho, Sem.run_bind, run_build w 26 _ cells.toArray (by rw [e, hc]), Result.andThen_ok]
  rfl
theorem zs_get (n j : Nat) (h : j < n) : (nums (zs n))[j]? = some (.int .u8 0) := by
  rw [nums_get _ _ (by rw [zs_len]; exact h)]
  unfold zs
  simp [h]
theorem made_digs (n : Nat) : madeCells (nums (zs 32)).toArray (n * 32) = (nums (zs (n * 32))).toArray := by
  have hs : (nums (zs 32)).toArray.size = 32 := rfl
  apply Array.ext_getElem?
  intro i
  by_cases hi : i < n * 32
  · have hr : (nums (zs (n * 32))).toArray[i]? = some (.int .u8 0) := by rw [List.getElem?_toArray]; exact zs_get _ _ hi
    rw [hr]
    unfold madeCells
    rw [Array.getElem?_map, hs]
    simp [hi, zs_get 32 (i % 32) (Nat.mod_lt _ (by omega))]
  · rw [Array.getElem?_eq_none (by rw [size_madeCells]; omega), Array.getElem?_eq_none (by rw [List.size_toArray, nums_len, zs_len]; omega)]
theorem make_digs (n : Nat) (hn : n ≤ 1000) (w : World) : (Instr.makeSlice 23 (.int .i64 (n : Int)) (.int .i64 (n : Int))).run Try.prog w = .ok (.slice (some ⟨w.heap.size, 0, none⟩) n n) (w.alloc (.cells (nums (zs (n * 32))).toArray 24)) := by
  obtain ⟨i, hi, hz, hsize, hby⟩ := info_parts dig_info
  have h := run_make (P := Try.prog) w 23 24 i _ Try.underlying23 hi hz .i64 .i64 (n : Int) (n : Int) (by omega) (Int.le_refl _) (by rw [hby]; omega) (by omega)
  rw [hsize] at h
  simp only [Int.toNat_natCast, Value.cells] at h
  rw [made_digs] at h
  exact h
theorem slice_mid {a : Option Addr} {n c i j : Nat} (h1 : i ≤ j) (h2 : j ≤ c) (w : World) : (Instr.slice 30 (.slice a n c) (some (.int .i64 (i : Int))) (some (.int .i64 (j : Int))) none).run Try.prog w = .ok (.slice (if c = i then a else a.map (·.add i)) (j - i) (c - i)) w := by
  have hb : (0 : Int) ≤ (j : Int) ∧ (j : Int) ≤ (c : Int) := by omega
  have ha : (0 : Int) ≤ (i : Int) ∧ (i : Int) ≤ (j : Int) := by omega
  simp only [Instr.slice, Instr.sliceBounds, Instr.sliceBound, Sem.run_bind, Sem.run_pure, Result.andThen_ok, run_underlying Try.underlying30, asIntOf, if_pos hb, if_pos ha, sz_u8, Int.toNat_natCast, Nat.mul_one]
theorem txt_mid {w : World} {S : Nat → Prop} {a : Option Addr} {n c i j : Nat} {l : List Int} (h : Txt w S a n c l) (h1 : i ≤ j) (h2 : j ≤ n) : Txt w S (if c = i then a else a.map (·.add i)) (j - i) (c - i) ((l.drop i).take (j - i)) :=
  (h.drop i (by omega)).take (j - i) (by omega)
theorem ck_mid (img : List Int) (c k t : Nat) (ht : t = min ((k + 1) * c) img.length) (hk : k * c ≤ img.length) : (img.drop (k * c)).take (t - k * c) = Mf.ck img c k := by
  unfold Mf.ck
  have e : (k + 1) * c = k * c + c := by rw [Nat.add_mul, Nat.one_mul]
  by_cases h : (k + 1) * c ≤ img.length
  · rw [ht, Nat.min_eq_left h, e, Nat.add_sub_cancel_left]
  · rw [ht, Nat.min_eq_right (by omega), List.take_of_length_le (by rw [List.length_drop]; omega), List.take_of_length_le (by rw [List.length_drop]; omega)]
/-- The digests so far, and the others as they were made. -/
def dsTo (img : List Int) (ch N k : Nat) : List (List Int) := Mf.digsTo img ch k ++ List.replicate (N - k) (zs 32)
theorem dsTo_ok (img : List Int) (ch N k : Nat) : ∀ d ∈ dsTo img ch N k, Dig d := by
  intro d hd
  rcases List.mem_append.1 hd with h | h
  · exact Mf.digsTo_ok _ _ _ d h
  · rw [(List.mem_replicate.1 h).2]; exact ⟨rfl, byt_zeros 32⟩
theorem dsTo_len (img : List Int) (ch : Nat) {N k : Nat} (hk : k ≤ N) : (dsTo img ch N k).length = N := by
  unfold dsTo; rw [List.length_append, Mf.digsTo_len, List.length_replicate]; omega
theorem dsTo_all (img : List Int) (ch N : Nat) : dsTo img ch N N = Mf.digsTo img ch N := by unfold dsTo; simp
theorem rep_flat (n : Nat) : (List.replicate n (zs 32)).flatten = zs (n * 32) := by
  induction n with
  | zero => rfl
  | succ n ih =>
    rw [List.replicate_succ, List.flatten_cons, ih]
    unfold zs
    rw [← List.replicate_append_replicate.symm]
    congr 1; omega
theorem dsTo_zero (img : List Int) (ch N : Nat) : (dsTo img ch N 0).flatten = zs (N * 32) := by
  unfold dsTo
  rw [List.flatten_append, Nat.sub_zero, rep_flat]
  simp [Mf.digsTo]
theorem dsTo_splice (img : List Int) (ch : Nat) {N k : Nat} (hk : k < N) : splice (nums (dsTo img ch N k).flatten) (k * 32) (nums (Mf.cdig k (Mf.ck img ch k))) = nums (dsTo img ch N (k + 1)).flatten := by
  have hl : (nums (Mf.digsTo img ch k).flatten).length = k * 32 := by rw [nums_len, Mf.flatten_len (Mf.digsTo_ok _ _ _), Mf.digsTo_len]; omega
  have hd : (nums (Mf.cdig k (Mf.ck img ch k))).length = 32 := by rw [nums_len, (Mf.cdig_ok _ _).1]
  have hz : (nums (zs 32)).length = 32 := by rw [nums_len]; rfl
  unfold splice dsTo
  rw [show N - k = (N - (k + 1)) + 1 by omega, List.replicate_succ, Mf.digsTo_succ]
  simp only [List.flatten_append, List.flatten_cons, List.flatten_nil, List.append_nil, nums_append, List.append_assoc]
  rw [List.take_append_of_le_length (by omega), List.take_of_length_le (by omega), hd, List.drop_append, hl]
  rw [List.drop_of_length_le (by omega), List.nil_append, show k * 32 + 32 - k * 32 = 32 by omega, List.drop_append_of_le_length (by omega), List.drop_of_length_le (by omega), List.nil_append]
/-- What holds while the document's manifest is filled. -/
structure Rst (w : World) (M D : Nat) (img : List Int) (ch N k : Nat) (wr : World) : Prop where
  m : Whole wr M 26 (mcs img.length ch (.slice (some ⟨D, 0, none⟩) N N) (Sm.dig img)).toArray
  d : Whole wr D 24 (nums (dsTo img ch N k).flatten).toArray
  z : Whole wr w.heap.size 26 zm
  b : Below w.heap.size w wr
  lt : w.heap.size < M ∧ w.heap.size < D ∧ M ≠ D
theorem Rst.below {w : World} {M D : Nat} {img : List Int} {ch N k : Nat} {wr w' : World} (h : Rst w M D img ch N k wr) (hb : Below wr.heap.size wr w') : Rst w M D img ch N k w' :=
  ⟨h.m.below hb h.m.lt, h.d.below hb h.d.lt, h.z.below hb h.z.lt, h.b.trans (hb.mono h.b.size), h.lt⟩
theorem Rst.stored {w : World} {M D : Nat} {img : List Int} {ch N k : Nat} {wr : World} (h : Rst w M D img ch N k wr) (hk : k < N) : Rst w M D img ch N (k + 1) (wr.setRow D (splice (nums (dsTo img ch N k).flatten) (k * 32) (nums (Mf.cdig k (Mf.ck img ch k)))).toArray) := by
  obtain ⟨l1, l2, l3⟩ := h.lt
  rw [dsTo_splice img ch hk]
  exact ⟨h.m.rowFar l3 _, h.d.row _, h.z.rowFar (by omega) _, below_row h.b (by omega) _, h.lt⟩
theorem Rst.mv {w : World} {M D : Nat} {img : List Int} {ch N k : Nat} {wr : World} (h : Rst w M D img ch N k wr) (hk : k ≤ N) (hi : img.length ≤ 100000) (hc : ch ≤ 100000) :
    Mv wr (· = D) (.agg (mcs img.length ch (.slice (some ⟨D, 0, none⟩) N N) (Sm.dig img)).toArray) ⟨img.length, ch, dsTo img ch N k, Sm.dig img⟩ := by
  refine ⟨some ⟨D, 0, none⟩, N, N, rfl, Nat.le_refl _, ⟨dsTo_len _ _ hk, dsTo_ok _ _ _ _, Or.inr ⟨D, 0, rfl, rfl, h.d.lt, fun j hj r v hv => ?_⟩⟩, dig_ok img, ⟨by show (-9223372036854775808 : Int) ≤ (img.length : Int); omega, by show (img.length : Int) ≤ 9223372036854775807; omega⟩, ⟨by show (-9223372036854775808 : Int) ≤ (ch : Int); omega, by show (ch : Int) ≤ 9223372036854775807; omega⟩⟩
  have hr : r < 32 := by
    have h1 := (List.getElem?_eq_some_iff.1 hv).1
    have hdk : ((dsTo img ch N k).getD j []).length = 32 := by
      have : (dsTo img ch N k).getD j [] = (dsTo img ch N k)[j]'(by rw [dsTo_len _ _ hk]; exact hj) := by simp [dsTo_len _ _ hk, hj]
      rw [this]; exact (dsTo_ok _ _ _ _ _ (List.getElem_mem _)).1
    rw [nums_len, hdk] at h1; exact h1
  rw [h.d.cell, List.getElem?_toArray, Nat.zero_add, flat_idx (dsTo_ok _ _ _ _) j r (by rw [dsTo_len _ _ hk]; exact hj) hr]
  exact hv
theorem part_vals {img : List Int} {ch N k : Nat} {ds : List (List Int)} {wh : List Int} (hN : Mf.cnt img.length ch = N) (hds : ds.length = N) (hk : k < N) :
    Mf.fr ⟨img.length, ch, ds, wh⟩ (k : Int) = ((k * ch : Nat) : Int) ∧ Mf.til ⟨img.length, ch, ds, wh⟩ (k : Int) = ((min ((k + 1) * ch) img.length : Nat) : Int) ∧ k * ch < min ((k + 1) * ch) img.length := by
  have hne : Mf.cnt img.length ch ≠ 0 := by omega
  have hoff : ¬ Mf.off ⟨img.length, ch, ds, wh⟩ (k : Int) := by
    intro h
    rcases h with h | h | h
    · rcases h with h | h
      · exact hne h
      · exact h (by rw [hds]; exact hN.symm)
    · omega
    · simp only [hds] at h; omega
  obtain ⟨_, _, _, _, h3, _, _, _, h7, h8, h9⟩ := Mf.off_not hoff
  have e1 : ((k * ch : Nat) : Int) = (k : Int) * (ch : Int) := by push_cast; rfl
  have e2 : (((k + 1) * ch : Nat) : Int) = ((k : Int) + 1) * (ch : Int) := by push_cast; rfl
  simp only at h3 h7 h8 h9
  refine ⟨?_, ?_, ?_⟩
  · unfold Mf.fr; rw [if_neg hoff, e1]
  · unfold Mf.til; rw [if_neg hoff]
    simp only
    split <;> omega
  · omega
theorem built_all32 (s c : Int) (a : Option Addr) (n k : Nat) (h0 h1 h2 h3 h4 h5 h6 h7 h8 h9 h10 h11 h12 h13 h14 h15 h16 h17 h18 h19 h20 h21 h22 h23 h24 h25 h26 h27 h28 h29 h30 h31 : Int) : Try.prog.built 26 [(0, .int .i64 s), (1, .int .i64 c), (2, .slice a n k), (3, .agg (nums [h0, h1, h2, h3, h4, h5, h6, h7, h8, h9, h10, h11, h12, h13, h14, h15, h16, h17, h18, h19, h20, h21, h22, h23, h24, h25, h26, h27, h28, h29, h30, h31]).toArray)] = some (mcs s c (.slice a n k) [h0, h1, h2, h3, h4, h5, h6, h7, h8, h9, h10, h11, h12, h13, h14, h15, h16, h17, h18, h19, h20, h21, h22, h23, h24, h25, h26, h27, h28, h29, h30, h31]).toArray := by kernel_rfl
theorem built_all (s c : Int) (a : Option Addr) (n k : Nat) (h : List Int) (hh : h.length = 32) : Try.prog.built 26 [(0, .int .i64 s), (1, .int .i64 c), (2, .slice a n k), (3, .agg (nums h).toArray)] = some (mcs s c (.slice a n k) h).toArray := by
  match h, hh with
  | [h0, h1, h2, h3, h4, h5, h6, h7, h8, h9, h10, h11, h12, h13, h14, h15, h16, h17, h18, h19, h20, h21, h22, h23, h24, h25, h26, h27, h28, h29, h30, h31], _ => exact built_all32 s c a n k h0 h1 h2 h3 h4 h5 h6 h7 h8 h9 h10 h11 h12 h13 h14 h15 h16 h17 h18 h19 h20 h21 h22 h23 h24 h25 h26 h27 h28 h29 h30 h31
end Go.Proofs.Ytcfchkffanfehaa
