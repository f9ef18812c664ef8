/-
  The walk of CodeTexts.
-/
import Derived.Test.YtkmkccdihoaefaaLo
import Derived.Deep.RegionHeld3
namespace Go.Proofs.Ytkmkccdihoaefaa
open Go.RowKit
set_option linter.unusedSimpArgs false

/-- A row of one part with bytes. -/
theorem one_prtB {w : World} {k : Int} {a : Option Addr} {n c : Nat} {l : List Int} {T : Nat → Prop} {N : Nat} (hN : w.heap.size = N) (hok : (Prt.mk k 0 0 0 l zero32).Ok) (ht : Txt w T a n c l) :
    Prts (w.alloc (.cells (pcells k 0 0 0 (.slice a n c) zero32).toArray 28)) (fun b => b = N ∨ T b) (some ⟨N, 0, none⟩) 1 [⟨k, 0, 0, 0, l, zero32⟩] := by
  subst hN
  have hn := Whole.new w 28 (flat [(⟨k, 0, 0, 0, l, zero32⟩, .slice a n c)]).toArray
  have := prts_whole (T := T) hn (by
    intro q hq
    simp only [List.mem_cons, List.not_mem_nil, or_false] at hq
    subst hq
    exact ⟨hok, _, _, _, rfl, ht.keep (by simp) (fun b hb _ => Below.heap_alloc _ _ _ hb)⟩)
  have e : flat [((⟨k, 0, 0, 0, l, zero32⟩ : Prt), Value.slice a n c)] = pcells k 0 0 0 (.slice a n c) zero32 := by simp [flat, cellsOf]
  rw [e] at this
  exact this
theorem one_writtenB (l : List Int) : written [(⟨2, 0, 0, 0, l, zero32⟩ : Prt)] = Cd.num l.length ++ l := by
  unfold written
  simp only [List.flatMap_cons, List.flatMap_nil, List.append_nil]
  unfold partBytes
  rw [if_neg (by show ¬ (2 : Int) = 1; omega), if_pos (show (2 : Int) = 2 from rfl)]
theorem texts_get {m : Int} {l : List Int} (hl : l.length ≤ 300) : txtOf m (Cd.num l.length ++ l) = if (l.length : Int) ≤ m then some (l, []) else none := by
  unfold txtOf Cd.get
  rw [Cd.parse_num (n := (l.length : Int)) (by omega) (by omega)]
  simp only [Int.toNat_natCast, Cd.unfold_fold]
  by_cases h : (l.length : Int) ≤ m
  · rw [if_pos ⟨by omega, h⟩, if_pos h]
    simp only [Int.toNat_natCast]
    rw [if_pos (by omega), List.take_length, List.drop_length]
  · rw [if_neg (fun hh => h hh.2), if_neg h]

/-- Bytes in memory of their own. -/
def Bytes (w : World) (B : Nat) (a : Option Addr) (n : Nat) : Prop := ∀ k, k < n → ∃ gs cur x, a = some ⟨gs, 0, none⟩ ∧ B ≤ gs ∧ Whole w gs 5 cur ∧ cur[k]? = some (.int .u8 x)
theorem Bytes.own {w : World} {B : Nat} {a : Option Addr} {n c : Nat} {l : List Int} (h : w.ownsRow B 5 1 (.slice a n c) n (nums l)) : Bytes w B a n := by
  intro k hk
  rcases h.2 with ⟨_, h0⟩ | ⟨g, cap, cur, hv, hB, hw, hnc, _, hsz, htk⟩
  · omega
  · injection hv with hv1 hv2 hv3
    refine ⟨g, cur, l.getD k 0, hv1, hB, hw, ?_⟩
    have hl : k < l.length := by have := h.1; rw [nums_len] at this; omega
    have e : (cur.toList.take (n * 1))[k]? = (nums l)[k]? := by rw [htk]
    rw [List.getElem?_take, if_pos (by omega), nums_get l k hl] at e
    rw [← Array.getElem?_toList]
    exact e
theorem Bytes.set {w : World} {B gs k n : Nat} {y : Int} (h : Bytes w B (some ⟨gs, 0, none⟩) n) : Bytes (w.setCell ⟨gs, k, none⟩ (.int .u8 y)) B (some ⟨gs, 0, none⟩) n := by
  intro j hj
  obtain ⟨g, cur, x, e, hB, hw, hx⟩ := h j hj
  injection e with e
  injection e with e
  subst e
  by_cases hjk : j = k
  · subst hjk
    refine ⟨gs, _, y, rfl, hB, hw.set j _, ?_⟩
    have hlt : j < cur.size := (Array.getElem?_eq_some_iff.1 hx).1
    simp [hlt]
  · refine ⟨gs, _, x, rfl, hB, hw.set k _, ?_⟩
    rw [Array.getElem?_setIfInBounds_ne (by omega)]
    exact hx

set_option maxHeartbeats 1000000 in
set_option maxRecDepth 100000 in
theorem texts_walk (a0 : Option Addr) (len0 cap0 : Nat) (z0 : List Int) (m : Int) (w : World) (w0 : Row .u8 w a0 len0 cap0 z0) (_w1 : (Lit.int .i64 m).wf = true) :
    Calls Try.prog 10 #[.slice a0 len0 cap0, .int .i64 m] w fun e w' => e = .returned (.bool true) ∧ Below w.heap.size w w' := by
  obtain ⟨l, ht⟩ := row_txt w0
  have HT := Lib.hid ht
  clear w0 ht _w1
  by_cases h300 : 300 < len0
  · go_enter Try.func10, Try.ntmps10
    go_wp2_with fail
    refine (awake_any _).mono ?_; rintro e w1 ⟨rfl, hg⟩
    have HG := Lib.hid hg
    clear hg
    go_wp2
    go_ret
    exact ⟨rfl, HG.out⟩
  · have HL : Hid (l.length = len0) := Lib.hid HT.out.1
    have HOK : Hid ((Prt.mk 2 0 0 0 l zero32).Ok) := Lib.hid (ok_mk (in_small (by omega) (by omega)) (in_small (by omega) (by omega)) (in_small (by omega) (by omega)) (in_small (by omega) (by omega)) zero_len byt_zero)
    go_enter Try.func10, Try.ntmps10
    go_wp2_with fail
    refine (awake_any _).mono ?_; rintro e w1 ⟨rfl, hg⟩
    have HB1 := Lib.hid hg
    clear hg
    go_wp2_with (first
      | ((with_reducible show wpList _ _ _ ((⟨_, Op.build 28 _, _, _, _, _⟩ : Oper) :: _) _ _); refine wpList_part rfl _ rfl [(0, .int .i64 _), (4, .slice _ _ _)] rfl _ (built_kb _ _ _ _) ?_)
      | ((with_reducible show wpList _ _ _ ((⟨_, Op.buildSlice 23 _ _, _, _, _, _⟩ : Oper) :: _) _ _); refine wpList_build1 rfl 18 rfl _ (psize zero_len) rfl ?_))
    have HT1 : Hid (Txt w1 (· < w.heap.size) a0 len0 cap0 l) := Lib.hid (HT.out.below HB1.out (fun _ _ h => h))
    refine (written_any (one_prtB (w := w1) rfl HOK.out HT1.out) (few_of (by simp) (by intro p hp; simp at hp; subst hp; have := HL.out; show l.length ≤ 300; omega))).mono ?_
    rintro e w4 ⟨v4, rfl, hown4, hb4⟩
    rw [one_writtenB] at hown4
    have hn1 : (Cd.num (l.length : Int)).length ≤ 10 := Cd.num_len (by have := HL.out; omega) (by have := HL.out; omega)
    obtain ⟨a4, c4, rfl, htx4⟩ := Txt.own hown4 (Cd.byt_append (Cd.byt_num _) HT.out.2.2.1)
    have HT4 := Lib.hid htx4
    have HB4 : Hid (Below w.heap.size w w4) := Lib.hid ((HB1.out.alloc HB1.out.size _).trans (hb4.mono (by have := HB1.out.size; simp; omega)))
    obtain ⟨n4, hn4⟩ : ∃ n4, (Cd.num ↑l.length ++ l).length = n4 := ⟨_, rfl⟩
    have HN4 := Lib.hid hn4
    rw [hn4] at HT4
    rw [hn4]
    have hn4b : n4 ≤ 400 := by rw [← hn4]; have := HL.out; simp; omega
    clear hn4 hown4 htx4 hb4 HT1 hn1 HB1
    go_wp2_with fail
    refine (new_any HT4.out (by omega)).mono ?_
    rintro e w5 ⟨g, rfl, hg5, hr5, hb5⟩
    have HR5 := Lib.hid hr5
    have HC5 := Lib.hid hb5
    have hgl := hr5.lt
    clear hr5 hb5
    go_wp2_with fail
    refine (rtext_any m HR5.out (by rw [HN4.out]; omega)).mono ?_
    rintro e w6 h6
    rw [texts_get (by have := HL.out; omega)] at h6
    by_cases hm : (l.length : Int) ≤ m
    · rw [if_pos hm] at h6
      have h6' : ∃ v, e = .returned v ∧ w6.ownsRow w5.heap.size 5 1 v l.length (nums l) ∧ Rd w6 g [] false ∧ w5.grownBy w6 (some g) := by
        rcases h6 with ⟨t, r, v, ho, he, h1, h2, h3⟩ | ⟨ho, _⟩
        · injection ho with ho
          injection ho with ho1 ho2
          subst ho1 ho2
          exact ⟨v, he, h1, h2, h3⟩
        · cases ho
      obtain ⟨v7, rfl, hown7, hr7, hg7⟩ := h6'
      clear h6
      obtain ⟨a7, c7, rfl, htx7⟩ := Txt.own hown7 HT.out.2.2.1
      have HBY := Lib.hid (Bytes.own hown7)
      rw [HL.out] at htx7 HBY hm
      rw [HL.out]
      have HT7 := Lib.hid htx7
      have HR7 := Lib.hid hr7
      have HC7 : Hid (Below w4.heap.size w4 w6) := Lib.hid (HC5.out.grown hg7 HC5.out.size (fun k hk => by injection hk with hk; omega))
      clear hown7 htx7 hr7 hg7 HC5
      go_wp2_with fail
      refine (done_any HR7.out).mono ?_
      rintro e w7 ⟨rfl, rfl⟩
      rw [show doneOf [] false = 0 from rfl]
      have hcv1 := convert_txt HT7.out
      have hcv2 := convert_txt (HT.out.below (HB4.out.trans (HC7.out.mono HB4.out.size)) (fun _ _ h => h))
      obtain ⟨s, hs⟩ : ∃ s, strOfNums l = s := ⟨_, rfl⟩
      rw [hs] at hcv1 hcv2
      have HS := Lib.hid hs
      clear hs HR7 HR5
      go_wp2
      go_loopw [10] (fun i wr => ∃ k : Nat, k ≤ len0 ∧ i = .int .i64 k ∧ Hid (Bytes wr w5.heap.size a7 len0) ∧ Hid (Below w4.heap.size w4 wr)) (fun i _ => len0 - (intOf i).toNat)
      case atStart => exact ⟨0, Nat.zero_le _, rfl, HBY, HC7⟩
      case round =>
        clear HBY HC7 hcv1 hcv2 HT7
        obtain ⟨k, hk, rfl, HBY, HC⟩ := hrel
        by_cases c : k < len0
        · obtain ⟨gs, cur, x, rfl, hB, hw, hx⟩ := HBY.out k c
          have c0 := hw.cell k
          rw [hx] at c0
          have f0 := hw.frozen k
          have HW := Lib.hid hw
          clear hw hx
          go_wp2
          exact ⟨⟨k + 1, by omega, by go_num, Lib.hid HBY.out.set, Lib.hid (HC.out.setCell (show w4.heap.size ≤ gs by omega) _)⟩, by simp [intOf]; omega⟩
        · have e : k = len0 := by omega
          subst e
          have HT8 : Hid (Txt wr (fun x => (w1.alloc (Obj.cells (pcells 2 0 0 0 (Value.slice a0 k cap0) zero32).toArray 28)).heap.size ≤ x) a4 n4 c4 (Cd.num ↑l.length ++ l)) := Lib.hid (HT4.out.below HC.out (fun _ h _ => h))
          go_wp2_with fail
          refine (new_any HT8.out (by omega)).mono ?_
          rintro e w8 ⟨g2, rfl, hg8, hr8, hb8⟩
          have HR8 : Hid (Rd w8.drew g2 (Cd.num ↑l.length ++ l) false) := Lib.hid hr8
          have HB8 : Hid (Below w.heap.size w w8.drew) := Lib.hid (((HB4.out.trans (HC.out.mono HB4.out.size)).trans (hb8.mono (by have := HB4.out.size; have := HC.out.size; omega))).drew)
          have hg2 : w.heap.size ≤ g2 := by have := HB4.out.size; have := HC.out.size; omega
          clear hr8 hb8 HT8 hg8
          have hcb := convert_txt (HT.out.below HB8.out (fun _ _ h => h))
          rw [HS.out] at hcb
          go_wp2
          refine wp_region_held_drew (S := fun w' => (convert 25 9 (.slice a0 k cap0)).run Try.prog w' = .ok (.string s) w') (by kernel_rfl) hcb (fun hHeld => ?_)
          refine wpAnyH_take (i := 0) (v := .bool true) rfl (by kernel_rfl) (by kernel_rfl) (by kernel_rfl) (fun _ _ _ h => h) (Or.inl ⟨by rfl, (by intro w hSw; (try dsimp only at hSw); go_simp)⟩) (by assumption) ?_
          try simp only [Act.put, List.getElem_toArray, List.getElem_cons_zero, List.getElem_cons_succ, List.setIfInBounds_toArray, List.set_cons_zero, List.set_cons_succ]
          refine wpAnyH_take (i := 1) (v := .bool true) rfl (by kernel_rfl) (by kernel_rfl) (by kernel_rfl) (fun _ _ _ h => h) (Or.inl ⟨by rfl, (by intro w hSw; (try dsimp only at hSw); go_simp)⟩) (by assumption) ?_
          try simp only [Act.put, List.getElem_toArray, List.getElem_cons_zero, List.getElem_cons_succ, List.setIfInBounds_toArray, List.set_cons_zero, List.set_cons_succ]
          refine wpAnyH_take (i := 2) (v := .pointer (some ⟨g2, 0, none⟩)) rfl (by kernel_rfl) (by kernel_rfl) (by kernel_rfl) (fun _ _ _ h => h) (Or.inl ⟨by rfl, (by intro w hSw; (try dsimp only at hSw); go_simp)⟩) (by assumption) ?_
          try simp only [Act.put, List.getElem_toArray, List.getElem_cons_zero, List.getElem_cons_succ, List.setIfInBounds_toArray, List.set_cons_zero, List.set_cons_succ]
          refine wpAnyH_take (i := 3) (v := .slice a0 k cap0) rfl (by kernel_rfl) (by kernel_rfl) (by kernel_rfl) (fun _ _ _ h => h) (Or.inl ⟨by rfl, (by intro w hSw; (try dsimp only at hSw); go_simp)⟩) (by assumption) ?_
          try simp only [Act.put, List.getElem_toArray, List.getElem_cons_zero, List.getElem_cons_succ, List.setIfInBounds_toArray, List.set_cons_zero, List.set_cons_succ]
          refine wpAnyH_take (i := 4) (v := .int .i64 k) rfl (by kernel_rfl) (by kernel_rfl) (by kernel_rfl) (fun _ _ _ h => h) (Or.inl ⟨by rfl, (by intro w hSw; (try dsimp only at hSw); go_simp)⟩) (by assumption) ?_
          try simp only [Act.put, List.getElem_toArray, List.getElem_cons_zero, List.getElem_cons_succ, List.setIfInBounds_toArray, List.set_cons_zero, List.set_cons_succ]
          refine wpAnyH_take (i := 7) (v := .slice a0 k cap0) rfl (by kernel_rfl) (by kernel_rfl) (by kernel_rfl) (fun _ _ _ h => h) (Or.inl ⟨by rfl, (by intro w hSw; (try dsimp only at hSw); go_simp)⟩) (by assumption) ?_
          try simp only [Act.put, List.getElem_toArray, List.getElem_cons_zero, List.getElem_cons_succ, List.setIfInBounds_toArray, List.set_cons_zero, List.set_cons_succ]
          refine wpAnyH_take (i := 8) (v := .string s) rfl (by kernel_rfl) (by kernel_rfl) (by kernel_rfl) (fun _ _ _ h => h) (Or.inl ⟨by rfl, (by intro w hSw; (try dsimp only at hSw); go_simp)⟩) (by assumption) ?_
          try simp only [Act.put, List.getElem_toArray, List.getElem_cons_zero, List.getElem_cons_succ, List.setIfInBounds_toArray, List.set_cons_zero, List.set_cons_succ]
          refine wpAnyH_ready (rs := [5]) (by kernel_rfl) (by simp) (AllReadyH.cons rfl (fun K hK => ?_) AllReadyH.nil)
          try simp only [List.getElem_toArray, List.getElem_cons_zero, List.getElem_cons_succ]
          go_simp
          go_at_call 24
          refine (rtext_any _ HR8.out (by rw [HN4.out]; omega)).mono ?_
          rintro e w9 h9
          rw [texts_get (by have := HL.out; omega), if_pos (by have := HL.out; omega)] at h9
          have h9' : ∃ v, e = .returned v ∧ w9.ownsRow w8.drew.heap.size 5 1 v l.length (nums l) ∧ w8.drew.grownBy w9 (some g2) := by
            rcases h9 with ⟨t, r, v, ho, he, h1, h2, h3⟩ | ⟨ho, _⟩
            · injection ho with ho
              injection ho with ho1 ho2
              subst ho1 ho2
              exact ⟨v, he, h1, h3⟩
            · cases ho
          obtain ⟨v9, rfl, hown9, hg9⟩ := h9'
          clear h9
          obtain ⟨a9, c9, rfl, htx9⟩ := Txt.own hown9 HT.out.2.2.1
          have hcv9 := convert_txt htx9
          have HB9 : Hid (Below w.heap.size w w9) := Lib.hid (HB8.out.grown hg9 HB8.out.size (fun j hj => by injection hj with hj; omega))
          have hcb9 := convert_txt (HT.out.below HB9.out (fun _ _ h => h))
          rw [HS.out] at hcv9 hcb9
          clear hown9 htx9 hg9
          go_wp2_with fail
          refine hK.out _ _ hcb9 (fun hHeld => ?_)
          clear hK K
          try simp only [Act.put, List.getElem_toArray, List.getElem_cons_zero, List.getElem_cons_succ, List.setIfInBounds_toArray, List.set_cons_zero, List.set_cons_succ]
          refine wpAnyH_ready (rs := [6]) (by kernel_rfl) (by simp) (AllReadyH.cons rfl (fun K hK => ?_) AllReadyH.nil)
          try simp only [List.getElem_toArray, List.getElem_cons_zero, List.getElem_cons_succ]
          go_simp
          refine hK.out _ _ hcb9 (fun hHeld => ?_)
          clear hK K
          try simp only [Act.put, List.getElem_toArray, List.getElem_cons_zero, List.getElem_cons_succ, List.setIfInBounds_toArray, List.set_cons_zero, List.set_cons_succ]
          refine wpAnyH_take (i := 9) (v := .bool true) rfl (by kernel_rfl) (by kernel_rfl) (by kernel_rfl) (fun _ _ _ h => h) (Or.inl ⟨by rfl, (by intro w hSw; (try dsimp only at hSw); go_simp)⟩) (by assumption) ?_
          try simp only [Act.put, List.getElem_toArray, List.getElem_cons_zero, List.getElem_cons_succ, List.setIfInBounds_toArray, List.set_cons_zero, List.set_cons_succ]
          refine wpAnyH_take (i := 10) (v := .bool true) rfl (by kernel_rfl) (by kernel_rfl) (by kernel_rfl) (fun _ _ _ h => h) (Or.inl ⟨by rfl, (by intro w hSw; (try dsimp only at hSw); go_simp)⟩) (by assumption) ?_
          try simp only [Act.put, List.getElem_toArray, List.getElem_cons_zero, List.getElem_cons_succ, List.setIfInBounds_toArray, List.set_cons_zero, List.set_cons_succ]
          refine wpAnyH_take (i := 11) (v := .bool true) rfl (by kernel_rfl) (by kernel_rfl) (by kernel_rfl) (fun _ _ _ h => h) (Or.inl ⟨by rfl, (by intro w hSw; (try dsimp only at hSw); go_simp)⟩) (by assumption) ?_
          try simp only [Act.put, List.getElem_toArray, List.getElem_cons_zero, List.getElem_cons_succ, List.setIfInBounds_toArray, List.set_cons_zero, List.set_cons_succ]
          refine wpAnyH_done (by kernel_rfl) ?_ _
          go_wp2
          go_ret
          exact ⟨rfl, HB9.out⟩
    · rw [if_neg hm] at h6
      have h6' : e = .returned (.slice none 0 0) ∧ Rd w6 g [] true ∧ w5.grownBy w6 (some g) := by
        rcases h6 with ⟨t, r, v, ho, _⟩ | ⟨_, h1, h2, h3⟩
        · cases ho
        · exact ⟨h1, h2, h3⟩
      obtain ⟨rfl, hr7, hg7⟩ := h6'
      rw [HL.out] at hm
      have HR7 := Lib.hid hr7
      have HC7 : Hid (Below w4.heap.size w4 w6) := Lib.hid (HC5.out.grown hg7 HC5.out.size (fun k hk => by injection hk with hk; omega))
      clear h6 hr7 hg7 HC5
      go_wp2_with fail
      refine (done_any HR7.out).mono ?_
      rintro e w7 ⟨rfl, rfl⟩
      rw [show doneOf [] true = 20 from rfl]
      go_wp2
      go_ret
      exact ⟨rfl, HB4.out.trans (HC7.out.mono HB4.out.size)⟩
end Go.Proofs.Ytkmkccdihoaefaa
