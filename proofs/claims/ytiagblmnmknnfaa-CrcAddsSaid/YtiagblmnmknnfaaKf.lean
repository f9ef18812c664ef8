/-
  The walk of CrcEnds. (Made by tools/gen_ends.py.)
-/
import Derived.Test.YtiagblmnmknnfaaKe
import Derived.Deep.RegionHeld
namespace Go.Proofs.Ytiagblmnmknnfaa
open Go.RowKit
theorem if_wanted {c : Bool} {p q : Prop} (h : c = true) (hp : p) : if c = true then p else q := by rw [if_pos h]; exact hp
theorem own_keep {w w' : World} {base e size n : Nat} {v : Value} {xs : List Value} (h : w.ownsRow base e size v n xs) (hb : Below w.heap.size w w') : w'.ownsRow base e size v n xs :=
  h.kept (row := none) ⟨hb.os, hb.tape, hb.output, hb.size, fun k hk _ => hb.block k hk⟩ (by
    rcases h.2 with ⟨rfl, _⟩ | ⟨g, cap, cur, rfl, _⟩
    · exact Or.inl rfl
    · exact Or.inr (by simp [Value.ownBlock]))
theorem own_empty {w : World} {E : Nat} (h : Whole w E 5 #[]) : w.ownsRow E 5 1 (.slice (some ⟨E, 0, none⟩) 0 0) 0 [] := ⟨by simp, Or.inr ⟨E, 0, #[], rfl, Nat.le_refl _, h, Nat.le_refl _, by unfold maxLen; omega, by simp, by simp⟩⟩
theorem own_at {w : World} {base e size n : Nat} {v : Value} {xs : List Value} {E s : Nat} (h : w.ownsRow base e size v n xs) (hb : v.ownBlock = some E ∨ v.ownBlock = some s) : ∃ Q cap, v = .slice (some ⟨Q, 0, none⟩) n cap ∧ (Q = E ∨ Q = s) := by
  rcases h.2 with ⟨rfl, _⟩ | ⟨g, cap, cur, rfl, _⟩
  · simp [Value.ownBlock] at hb
  · refine ⟨g, cap, rfl, ?_⟩
    simpa [Value.ownBlock] using hb
theorem own_lt {w : World} {base e size n : Nat} {Q cap : Nat} {xs : List Value} (h : w.ownsRow base e size (.slice (some ⟨Q, 0, none⟩) n cap) n xs) : base ≤ Q ∧ Q < w.heap.size := h.lt Q rfl
theorem slice_row {B E n c k : Nat} (h : (Value.slice (some ⟨E, 0, none⟩) n c).ownBlock = some k) (hB : B ≤ E) : B ≤ k := Nat.le_trans hB (Nat.le_of_eq (Option.some.inj h))
theorem slice_ne {F E n c : Nat} (h : F ≠ E) : some F ≠ (Value.slice (some ⟨E, 0, none⟩) n c).ownBlock := fun e => h (Option.some.inj e)
theorem txt_whole {w : World} {g : Nat} {t : TypeId} {l : List Int} (h : Whole w g t (nums l).toArray) (hb : Byt l) : Txt w (fun _ => True) (some ⟨g, 0, none⟩) l.length l.length l := by
  have := txt_of_whole (fun _ => True) trivial h hb l.length l.length (Nat.le_refl _) (Nat.le_refl _)
  rwa [List.take_length] at this
theorem byt_bytes (x : BitVec 32) : Byt (Cm.bytes x) := Cm.bytes_byt x
theorem cells_bytes (x : BitVec 32) : (#[.int .u8 (IntKind.u8.wrap (num x)), .int .u8 (IntKind.u8.wrap (num x / 256)), .int .u8 (IntKind.u8.wrap (num x / 65536)), .int .u8 (IntKind.u8.wrap (num x / 16777216))] : Array Value) = (nums (Cm.bytes x)).toArray := by
  simp only [IntKind.wrap_u8']; rfl
def zeros (n : Nat) : List Int := List.replicate n 0
theorem cells_zeros4 : (#[.int .u8 0, .int .u8 0, .int .u8 0, .int .u8 0] : Array Value) = (nums (zeros 4)).toArray := rfl
set_option linter.unusedSimpArgs false in
set_option maxHeartbeats 4000000 in
theorem ends_walk (a0 : Option Addr) (n0 c0 : Nat) (l0 : List Int) (w : World) (h0 : Txt w (· < w.heap.size) a0 n0 c0 l0) :
    Calls Try.prog 7 #[.slice a0 n0 c0] w fun e w' => e = .returned (.bool true) ∧ Below w.heap.size w w' := by
  obtain ⟨i0, HI0⟩ := u8_infos
  have HI := Lib.hid HI0
  have H0 := Lib.hid h0
  clear h0 HI0
  by_cases g1 : 1000 < n0
  · have d1 : decide ((1000 : Int) < (n0 : Int)) = true := by simp; omega
    go_enter Try.func7, Try.ntmps7
    go_wp2_with (go_at_call 9; refine (awake_any _).mono ?_; rintro e w' ⟨rfl, hb⟩; have HB := Lib.hid hb; clear hb)
    go_ret
    exact ⟨rfl, HB.out⟩
  have d1 : decide ((1000 : Int) < (n0 : Int)) = false := by simp; omega
  go_enter Try.func7, Try.ntmps7
  go_wp2_with fail
  refine (awake_any w).mono ?_
  rintro e w1 ⟨rfl, hb⟩
  have HB := Lib.hid hb
  clear hb
  go_wp2_with fail
  refine (sum_any (H0.out.below HB.out (fun _ _ h => h)) (by omega)).mono ?_
  rintro e w2 ⟨rfl, hb⟩
  have HB2 : Hid (Below w.heap.size w w2) := Lib.hid (HB.out.trans (hb.mono HB.out.size))
  clear hb HB
  have HEV : Hid (Cm.more 0#32 (l0 ++ Cm.bytes (Cm.more 0#32 l0)) = Cm.more 0#32 (zeros 4)) := Lib.hid (Cm.ends l0)
  generalize Cm.more 0#32 l0 = x at *
  go_wp2_with fail
  generalize hBe : w.heap.size = B at *
  have HBE := Lib.hid hBe
  clear hBe
  refine wp_region_held_drew (S := fun _ => True) (by kernel_rfl) trivial (fun hHeld => ?_)
  have HB0 : Hid (Below B w w2.drew) := Lib.hid HB2.out.drew
  have zB0 : B ≤ w2.drew.heap.size := by have := HB0.out.size; have := HBE.out; omega
  clear HB2
  generalize w2.drew = v0 at *
  have hmk : ∀ w, (Instr.makeSlice 23 (.int .i64 4) (.int .i64 4)).run Try.prog w = .ok (.slice (some ⟨w.heap.size, 0, none⟩) 4 4) (w.alloc (.cells (nums (zeros 4)).toArray 5)) := fun _ => by kernel_rfl
  refine wpAnyH_take (i := 0) (v := .bool true) rfl (by kernel_rfl) (by kernel_rfl) (by kernel_rfl) (fun _ _ _ h => h) (Or.inl ⟨by rfl, (by intro w hSw; (try dsimp only at hSw); go_simp)⟩) (by assumption) ?_
  try simp only [Act.put, List.getElem_toArray, List.getElem_cons_zero, List.getElem_cons_succ, List.setIfInBounds_toArray, List.set_cons_zero, List.set_cons_succ]
  refine wpAnyH_take (i := 1) (v := .bool true) rfl (by kernel_rfl) (by kernel_rfl) (by kernel_rfl) (fun _ _ _ h => h) (Or.inl ⟨by rfl, (by intro w hSw; (try dsimp only at hSw); go_simp)⟩) (by assumption) ?_
  try simp only [Act.put, List.getElem_toArray, List.getElem_cons_zero, List.getElem_cons_succ, List.setIfInBounds_toArray, List.set_cons_zero, List.set_cons_succ]
  refine wpAnyH_take (i := 3) (v := .slice a0 n0 c0) rfl (by kernel_rfl) (by kernel_rfl) (by kernel_rfl) (fun _ _ _ h => h) (Or.inl ⟨by rfl, (by intro w hSw; (try dsimp only at hSw); go_simp)⟩) (by assumption) ?_
  try simp only [Act.put, List.getElem_toArray, List.getElem_cons_zero, List.getElem_cons_succ, List.setIfInBounds_toArray, List.set_cons_zero, List.set_cons_succ]
  refine wpAnyH_take (i := 5) (v := .int .u32 (num x)) rfl (by kernel_rfl) (by kernel_rfl) (by kernel_rfl) (fun _ _ _ h => h) (Or.inl ⟨by rfl, (by intro w hSw; (try dsimp only at hSw); go_simp)⟩) (by assumption) ?_
  try simp only [Act.put, List.getElem_toArray, List.getElem_cons_zero, List.getElem_cons_succ, List.setIfInBounds_toArray, List.set_cons_zero, List.set_cons_succ]
  refine wpAnyH_take (i := 6) (v := .int .u8 (IntKind.u8.wrap (num x))) rfl (by kernel_rfl) (by kernel_rfl) (by kernel_rfl) (fun _ _ _ h => h) (Or.inl ⟨by rfl, (by intro w hSw; (try dsimp only at hSw); go_simp)⟩) (by assumption) ?_
  try simp only [Act.put, List.getElem_toArray, List.getElem_cons_zero, List.getElem_cons_succ, List.setIfInBounds_toArray, List.set_cons_zero, List.set_cons_succ]
  refine wpAnyH_take (i := 7) (v := .int .u32 (num x)) rfl (by kernel_rfl) (by kernel_rfl) (by kernel_rfl) (fun _ _ _ h => h) (Or.inl ⟨by rfl, (by intro w hSw; (try dsimp only at hSw); go_simp)⟩) (by assumption) ?_
  try simp only [Act.put, List.getElem_toArray, List.getElem_cons_zero, List.getElem_cons_succ, List.setIfInBounds_toArray, List.set_cons_zero, List.set_cons_succ]
  refine wpAnyH_take (i := 8) (v := .int .u32 (num x / 256)) rfl (by kernel_rfl) (by kernel_rfl) (by kernel_rfl) (fun _ _ _ h => h) (Or.inl ⟨by rfl, (by intro w hSw; (try dsimp only at hSw); go_simp)⟩) (by assumption) ?_
  try simp only [Act.put, List.getElem_toArray, List.getElem_cons_zero, List.getElem_cons_succ, List.setIfInBounds_toArray, List.set_cons_zero, List.set_cons_succ]
  refine wpAnyH_take (i := 9) (v := .int .u8 (IntKind.u8.wrap (num x / 256))) rfl (by kernel_rfl) (by kernel_rfl) (by kernel_rfl) (fun _ _ _ h => h) (Or.inl ⟨by rfl, (by intro w hSw; (try dsimp only at hSw); go_simp)⟩) (by assumption) ?_
  try simp only [Act.put, List.getElem_toArray, List.getElem_cons_zero, List.getElem_cons_succ, List.setIfInBounds_toArray, List.set_cons_zero, List.set_cons_succ]
  refine wpAnyH_take (i := 10) (v := .int .u32 (num x)) rfl (by kernel_rfl) (by kernel_rfl) (by kernel_rfl) (fun _ _ _ h => h) (Or.inl ⟨by rfl, (by intro w hSw; (try dsimp only at hSw); go_simp)⟩) (by assumption) ?_
  try simp only [Act.put, List.getElem_toArray, List.getElem_cons_zero, List.getElem_cons_succ, List.setIfInBounds_toArray, List.set_cons_zero, List.set_cons_succ]
  refine wpAnyH_take (i := 11) (v := .int .u32 (num x / 65536)) rfl (by kernel_rfl) (by kernel_rfl) (by kernel_rfl) (fun _ _ _ h => h) (Or.inl ⟨by rfl, (by intro w hSw; (try dsimp only at hSw); go_simp)⟩) (by assumption) ?_
  try simp only [Act.put, List.getElem_toArray, List.getElem_cons_zero, List.getElem_cons_succ, List.setIfInBounds_toArray, List.set_cons_zero, List.set_cons_succ]
  refine wpAnyH_take (i := 12) (v := .int .u8 (IntKind.u8.wrap (num x / 65536))) rfl (by kernel_rfl) (by kernel_rfl) (by kernel_rfl) (fun _ _ _ h => h) (Or.inl ⟨by rfl, (by intro w hSw; (try dsimp only at hSw); go_simp)⟩) (by assumption) ?_
  try simp only [Act.put, List.getElem_toArray, List.getElem_cons_zero, List.getElem_cons_succ, List.setIfInBounds_toArray, List.set_cons_zero, List.set_cons_succ]
  refine wpAnyH_take (i := 13) (v := .int .u32 (num x)) rfl (by kernel_rfl) (by kernel_rfl) (by kernel_rfl) (fun _ _ _ h => h) (Or.inl ⟨by rfl, (by intro w hSw; (try dsimp only at hSw); go_simp)⟩) (by assumption) ?_
  try simp only [Act.put, List.getElem_toArray, List.getElem_cons_zero, List.getElem_cons_succ, List.setIfInBounds_toArray, List.set_cons_zero, List.set_cons_succ]
  refine wpAnyH_take (i := 14) (v := .int .u32 (num x / 16777216)) rfl (by kernel_rfl) (by kernel_rfl) (by kernel_rfl) (fun _ _ _ h => h) (Or.inl ⟨by rfl, (by intro w hSw; (try dsimp only at hSw); go_simp)⟩) (by assumption) ?_
  try simp only [Act.put, List.getElem_toArray, List.getElem_cons_zero, List.getElem_cons_succ, List.setIfInBounds_toArray, List.set_cons_zero, List.set_cons_succ]
  refine wpAnyH_take (i := 15) (v := .int .u8 (IntKind.u8.wrap (num x / 16777216))) rfl (by kernel_rfl) (by kernel_rfl) (by kernel_rfl) (fun _ _ _ h => h) (Or.inl ⟨by rfl, (by intro w hSw; (try dsimp only at hSw); go_simp)⟩) (by assumption) ?_
  try simp only [Act.put, List.getElem_toArray, List.getElem_cons_zero, List.getElem_cons_succ, List.setIfInBounds_toArray, List.set_cons_zero, List.set_cons_succ]
  refine wpAnyH_ready (rs := [2, 16, 19]) (by kernel_rfl) (by simp) (AllReadyH.cons rfl (fun K hK => ?_) (AllReadyH.cons rfl (fun K hK => ?_) (AllReadyH.cons rfl (fun K hK => ?_) AllReadyH.nil)))
  · skip
    try simp only [List.getElem_toArray, List.getElem_cons_zero, List.getElem_cons_succ]
    go_simp
    refine hK.out _ _ trivial (fun hHeld => ?_)
    clear hK K
    try simp only [Act.put, List.getElem_toArray, List.getElem_cons_zero, List.getElem_cons_succ, List.setIfInBounds_toArray, List.set_cons_zero, List.set_cons_succ]
    have hE1 := Whole.new v0 5 #[]
    have hb0 := below_alloc v0 (.cells #[] 5)
    generalize v0.alloc (.cells #[] 5) = v1 at *
    have HB1 : Hid (Below B w v1) := Lib.hid (HB0.out.trans (hb0.mono zB0))
    have zB1 : B ≤ v1.heap.size := Nat.le_trans zB0 hb0.size
    generalize v0.heap.size = E at *
    have gE : B ≤ E := zB0
    have HE1 := Lib.hid hE1
    clear hE1 hb0
    clear HB0
    refine wpAnyH_ready (rs := [4, 16, 19]) (by kernel_rfl) (by simp) (AllReadyH.cons rfl (fun K hK => ?_) (AllReadyH.cons rfl (fun K hK => ?_) (AllReadyH.cons rfl (fun K hK => ?_) AllReadyH.nil)))
    · skip
      try simp only [List.getElem_toArray, List.getElem_cons_zero, List.getElem_cons_succ]
      refine if_wanted (by rfl) ?_
      refine wp_append_txt _ (.tmp 14) (.tmp 15) 23 rfl E 5 i0 (.int .u8 0) 1 Try.underlying23 HI.out.1 HI.out.2.1 HI.out.2.2.1 HI.out.2.2.2 rfl _ 0 [] rfl (own_empty HE1.out) (· < B) a0 n0 c0 l0 rfl (H0.out.below HB1.out (fun _ _ h => h)) (by unfold maxLen; omega) (by omega) (Nat.le_of_lt HE1.out.lt) ?_
      intro u2 v2 hown hg hq
      have HO2 : Hid (v2.ownsRow E 5 1 u2 n0 (nums l0)) := Lib.hid (by rw [Nat.zero_add] at hown; exact hown)
      obtain ⟨Q, cap4, rfl, hQ⟩ := own_at HO2.out hq
      have HB2 : Hid (Below B w v2) := Lib.hid (HB1.out.grown hg zB1 (fun k hk => slice_row hk gE))
      have zB2 : B ≤ v2.heap.size := Nat.le_trans zB1 hg.size
      have gQ : B ≤ Q := by
        rcases hQ with rfl | rfl
        · exact gE
        · exact zB1
      clear hown hg hq hQ
      clear HB1
      clear HE1
      refine hK.out _ _ trivial (fun hHeld => ?_)
      clear hK K
      try simp only [Act.put, List.getElem_toArray, List.getElem_cons_zero, List.getElem_cons_succ, List.setIfInBounds_toArray, List.set_cons_zero, List.set_cons_succ]
      refine wpAnyH_ready (rs := [16, 19]) (by kernel_rfl) (by simp) (AllReadyH.cons rfl (fun K hK => ?_) (AllReadyH.cons rfl (fun K hK => ?_) AllReadyH.nil))
      · skip
        try simp only [List.getElem_toArray, List.getElem_cons_zero, List.getElem_cons_succ]
        go_simp
        rw [cells_bytes]
        refine hK.out _ _ trivial (fun hHeld => ?_)
        clear hK K
        try simp only [Act.put, List.getElem_toArray, List.getElem_cons_zero, List.getElem_cons_succ, List.setIfInBounds_toArray, List.set_cons_zero, List.set_cons_succ]
        have hF3 := Whole.new v2 5 (nums (Cm.bytes x)).toArray
        have hb2 := below_alloc v2 (.cells (nums (Cm.bytes x)).toArray 5)
        generalize v2.alloc (.cells (nums (Cm.bytes x)).toArray 5) = v3 at *
        have HO3 := Lib.hid (own_keep HO2.out hb2)
        have HB3 : Hid (Below B w v3) := Lib.hid (HB2.out.trans (hb2.mono zB2))
        have zB3 : B ≤ v3.heap.size := Nat.le_trans zB2 hb2.size
        have neQF : Q ≠ v2.heap.size := Nat.ne_of_lt (own_lt HO2.out).2
        generalize v2.heap.size = F at *
        have HF3 := Lib.hid hF3
        clear hF3 hb2
        clear HO2 HB2
        refine wpAnyH_ready (rs := [17, 19]) (by kernel_rfl) (by simp) (AllReadyH.cons rfl (fun K hK => ?_) (AllReadyH.cons rfl (fun K hK => ?_) AllReadyH.nil))
        · skip
          try simp only [List.getElem_toArray, List.getElem_cons_zero, List.getElem_cons_succ]
          refine if_wanted (by rfl) ?_
          refine wp_append_txt _ (.tmp 16) (.tmp 28) 23 rfl E 5 i0 (.int .u8 0) 1 Try.underlying23 HI.out.1 HI.out.2.1 HI.out.2.2.1 HI.out.2.2.2 rfl _ n0 (nums l0) rfl HO3.out (fun _ => True) (some ⟨F, 0, none⟩) 4 4 (Cm.bytes x) rfl (txt_whole HF3.out (byt_bytes x)) (by unfold maxLen; omega) (by omega) (Nat.le_of_lt (Nat.lt_of_le_of_lt (own_lt HO3.out).1 (own_lt HO3.out).2)) ?_
          intro u4 v4 hown hg hq
          have HT4 : Hid (∃ a c, u4 = .slice a (n0 + 4) c ∧ Txt v4 (fun _ => True) a (n0 + 4) c (l0 ++ Cm.bytes x)) := Lib.hid (by
            rw [← nums_append] at hown
            obtain ⟨a, c, e, ht⟩ := Txt.own hown (byt_append H0.out.2.2.1 (byt_bytes x))
            exact ⟨a, c, e, ht.weak fun _ _ _ => trivial⟩)
          obtain ⟨q5, cap5, rfl, hT4⟩ := HT4.out
          clear HT4
          have HT4 := Lib.hid hT4
          have HB4 : Hid (Below B w v4) := Lib.hid (HB3.out.grown hg zB3 (fun k hk => slice_row hk gQ))
          have zB4 : B ≤ v4.heap.size := Nat.le_trans zB3 hg.size
          clear hown hg hq hT4
          clear HO3 HF3 HB3
          refine hK.out _ _ trivial (fun hHeld => ?_)
          clear hK K
          try simp only [Act.put, List.getElem_toArray, List.getElem_cons_zero, List.getElem_cons_succ, List.setIfInBounds_toArray, List.set_cons_zero, List.set_cons_succ]
          refine wpAnyH_ready (rs := [18, 19]) (by kernel_rfl) (by simp) (AllReadyH.cons rfl (fun K hK => ?_) (AllReadyH.cons rfl (fun K hK => ?_) AllReadyH.nil))
          · skip
            try simp only [List.getElem_toArray, List.getElem_cons_zero, List.getElem_cons_succ]
            go_simp
            go_at_call 12
            refine (sum_any HT4.out (by omega)).mono ?_
            rintro e v5 ⟨rfl, hb4⟩
            rw [HEV.out]
            have HB5 : Hid (Below B w v5) := Lib.hid (HB4.out.trans (hb4.mono zB4))
            have zB5 : B ≤ v5.heap.size := Nat.le_trans zB4 hb4.size
            clear hb4
            clear HT4 HB4
            go_wp2_with fail
            refine hK.out _ _ trivial (fun hHeld => ?_)
            clear hK K
            try simp only [Act.put, List.getElem_toArray, List.getElem_cons_zero, List.getElem_cons_succ, List.setIfInBounds_toArray, List.set_cons_zero, List.set_cons_succ]
            refine wpAnyH_ready (rs := [19]) (by kernel_rfl) (by simp) (AllReadyH.cons rfl (fun K hK => ?_) AllReadyH.nil)
            try simp only [List.getElem_toArray, List.getElem_cons_zero, List.getElem_cons_succ]
            go_simp
            refine hK.out _ _ trivial (fun hHeld => ?_)
            clear hK K
            try simp only [Act.put, List.getElem_toArray, List.getElem_cons_zero, List.getElem_cons_succ, List.setIfInBounds_toArray, List.set_cons_zero, List.set_cons_succ]
            have hG6 := Whole.new v5 5 (nums (zeros 4)).toArray
            have hb5 := below_alloc v5 (.cells (nums (zeros 4)).toArray 5)
            generalize v5.alloc (.cells (nums (zeros 4)).toArray 5) = v6 at *
            have HB6 : Hid (Below B w v6) := Lib.hid (HB5.out.trans (hb5.mono zB5))
            have zB6 : B ≤ v6.heap.size := Nat.le_trans zB5 hb5.size
            generalize v5.heap.size = G at *
            have HG6 := Lib.hid hG6
            clear hG6 hb5
            clear HB5
            refine wpAnyH_ready (rs := [20]) (by kernel_rfl) (by simp) (AllReadyH.cons rfl (fun K hK => ?_) AllReadyH.nil)
            try simp only [List.getElem_toArray, List.getElem_cons_zero, List.getElem_cons_succ]
            go_simp
            go_at_call 12
            refine (sum_any (txt_whole HG6.out (byt_zeros 4)) (by simp [zeros])).mono ?_
            rintro e v7 ⟨rfl, hb6⟩
            have HB7 : Hid (Below B w v7) := Lib.hid (HB6.out.trans (hb6.mono zB6))
            have zB7 : B ≤ v7.heap.size := Nat.le_trans zB6 hb6.size
            clear hb6
            clear HG6 HB6
            go_wp2_with fail
            refine hK.out _ _ trivial (fun hHeld => ?_)
            clear hK K
            try simp only [Act.put, List.getElem_toArray, List.getElem_cons_zero, List.getElem_cons_succ, List.setIfInBounds_toArray, List.set_cons_zero, List.set_cons_succ]
            refine wpAnyH_take (i := 21) (v := .bool true) rfl (by kernel_rfl) (by kernel_rfl) (by kernel_rfl) (fun _ _ _ h => h) (Or.inl ⟨by rfl, (by intro w hSw; (try dsimp only at hSw); go_simp)⟩) (by assumption) ?_
            try simp only [Act.put, List.getElem_toArray, List.getElem_cons_zero, List.getElem_cons_succ, List.setIfInBounds_toArray, List.set_cons_zero, List.set_cons_succ]
            refine wpAnyH_take (i := 22) (v := .bool true) rfl (by kernel_rfl) (by kernel_rfl) (by kernel_rfl) (fun _ _ _ h => h) (Or.inl ⟨by rfl, (by intro w hSw; (try dsimp only at hSw); go_simp)⟩) (by assumption) ?_
            try simp only [Act.put, List.getElem_toArray, List.getElem_cons_zero, List.getElem_cons_succ, List.setIfInBounds_toArray, List.set_cons_zero, List.set_cons_succ]
            refine wpAnyH_take (i := 23) (v := .bool true) rfl (by kernel_rfl) (by kernel_rfl) (by kernel_rfl) (fun _ _ _ h => h) (Or.inl ⟨by rfl, (by intro w hSw; (try dsimp only at hSw); go_simp)⟩) (by assumption) ?_
            try simp only [Act.put, List.getElem_toArray, List.getElem_cons_zero, List.getElem_cons_succ, List.setIfInBounds_toArray, List.set_cons_zero, List.set_cons_succ]
            refine wpAnyH_done (by kernel_rfl) ?_ _
            go_wp2
            go_ret
            exact ⟨rfl, by rw [HBE.out]; exact HB7.out⟩
          · skip
            try simp only [List.getElem_toArray, List.getElem_cons_zero, List.getElem_cons_succ]
            go_simp
            refine hK.out _ _ trivial (fun hHeld => ?_)
            clear hK K
            try simp only [Act.put, List.getElem_toArray, List.getElem_cons_zero, List.getElem_cons_succ, List.setIfInBounds_toArray, List.set_cons_zero, List.set_cons_succ]
            have hG5 := Whole.new v4 5 (nums (zeros 4)).toArray
            have hb4 := below_alloc v4 (.cells (nums (zeros 4)).toArray 5)
            generalize v4.alloc (.cells (nums (zeros 4)).toArray 5) = v5 at *
            have HT5 := Lib.hid (HT4.out.below hb4 (fun _ h _ => h))
            have HB5 : Hid (Below B w v5) := Lib.hid (HB4.out.trans (hb4.mono zB4))
            have zB5 : B ≤ v5.heap.size := Nat.le_trans zB4 hb4.size
            generalize v4.heap.size = G at *
            have HG5 := Lib.hid hG5
            clear hG5 hb4
            clear HT4 HB4
            refine wpAnyH_ready (rs := [18]) (by kernel_rfl) (by simp) (AllReadyH.cons rfl (fun K hK => ?_) AllReadyH.nil)
            try simp only [List.getElem_toArray, List.getElem_cons_zero, List.getElem_cons_succ]
            go_simp
            go_at_call 12
            refine (sum_any HT5.out (by omega)).mono ?_
            rintro e v6 ⟨rfl, hb5⟩
            rw [HEV.out]
            have HG6 := Lib.hid (HG5.out.below hb5 HG5.out.lt)
            have HB6 : Hid (Below B w v6) := Lib.hid (HB5.out.trans (hb5.mono zB5))
            have zB6 : B ≤ v6.heap.size := Nat.le_trans zB5 hb5.size
            clear hb5
            clear HT5 HG5 HB5
            go_wp2_with fail
            refine hK.out _ _ trivial (fun hHeld => ?_)
            clear hK K
            try simp only [Act.put, List.getElem_toArray, List.getElem_cons_zero, List.getElem_cons_succ, List.setIfInBounds_toArray, List.set_cons_zero, List.set_cons_succ]
            refine wpAnyH_ready (rs := [20]) (by kernel_rfl) (by simp) (AllReadyH.cons rfl (fun K hK => ?_) AllReadyH.nil)
            try simp only [List.getElem_toArray, List.getElem_cons_zero, List.getElem_cons_succ]
            go_simp
            go_at_call 12
            refine (sum_any (txt_whole HG6.out (byt_zeros 4)) (by simp [zeros])).mono ?_
            rintro e v7 ⟨rfl, hb6⟩
            have HB7 : Hid (Below B w v7) := Lib.hid (HB6.out.trans (hb6.mono zB6))
            have zB7 : B ≤ v7.heap.size := Nat.le_trans zB6 hb6.size
            clear hb6
            clear HG6 HB6
            go_wp2_with fail
            refine hK.out _ _ trivial (fun hHeld => ?_)
            clear hK K
            try simp only [Act.put, List.getElem_toArray, List.getElem_cons_zero, List.getElem_cons_succ, List.setIfInBounds_toArray, List.set_cons_zero, List.set_cons_succ]
            refine wpAnyH_take (i := 21) (v := .bool true) rfl (by kernel_rfl) (by kernel_rfl) (by kernel_rfl) (fun _ _ _ h => h) (Or.inl ⟨by rfl, (by intro w hSw; (try dsimp only at hSw); go_simp)⟩) (by assumption) ?_
            try simp only [Act.put, List.getElem_toArray, List.getElem_cons_zero, List.getElem_cons_succ, List.setIfInBounds_toArray, List.set_cons_zero, List.set_cons_succ]
            refine wpAnyH_take (i := 22) (v := .bool true) rfl (by kernel_rfl) (by kernel_rfl) (by kernel_rfl) (fun _ _ _ h => h) (Or.inl ⟨by rfl, (by intro w hSw; (try dsimp only at hSw); go_simp)⟩) (by assumption) ?_
            try simp only [Act.put, List.getElem_toArray, List.getElem_cons_zero, List.getElem_cons_succ, List.setIfInBounds_toArray, List.set_cons_zero, List.set_cons_succ]
            refine wpAnyH_take (i := 23) (v := .bool true) rfl (by kernel_rfl) (by kernel_rfl) (by kernel_rfl) (fun _ _ _ h => h) (Or.inl ⟨by rfl, (by intro w hSw; (try dsimp only at hSw); go_simp)⟩) (by assumption) ?_
            try simp only [Act.put, List.getElem_toArray, List.getElem_cons_zero, List.getElem_cons_succ, List.setIfInBounds_toArray, List.set_cons_zero, List.set_cons_succ]
            refine wpAnyH_done (by kernel_rfl) ?_ _
            go_wp2
            go_ret
            exact ⟨rfl, by rw [HBE.out]; exact HB7.out⟩
        · skip
          try simp only [List.getElem_toArray, List.getElem_cons_zero, List.getElem_cons_succ]
          go_simp
          refine hK.out _ _ trivial (fun hHeld => ?_)
          clear hK K
          try simp only [Act.put, List.getElem_toArray, List.getElem_cons_zero, List.getElem_cons_succ, List.setIfInBounds_toArray, List.set_cons_zero, List.set_cons_succ]
          have hG4 := Whole.new v3 5 (nums (zeros 4)).toArray
          have hb3 := below_alloc v3 (.cells (nums (zeros 4)).toArray 5)
          generalize v3.alloc (.cells (nums (zeros 4)).toArray 5) = v4 at *
          have HO4 := Lib.hid (own_keep HO3.out hb3)
          have HF4 := Lib.hid (HF3.out.below hb3 HF3.out.lt)
          have HB4 : Hid (Below B w v4) := Lib.hid (HB3.out.trans (hb3.mono zB3))
          have zB4 : B ≤ v4.heap.size := Nat.le_trans zB3 hb3.size
          have neQG : Q ≠ v3.heap.size := Nat.ne_of_lt (own_lt HO3.out).2
          have neFG : F ≠ v3.heap.size := Nat.ne_of_lt HF3.out.lt
          generalize v3.heap.size = G at *
          have HG4 := Lib.hid hG4
          clear hG4 hb3
          clear HO3 HF3 HB3
          refine wpAnyH_ready (rs := [17]) (by kernel_rfl) (by simp) (AllReadyH.cons rfl (fun K hK => ?_) AllReadyH.nil)
          try simp only [List.getElem_toArray, List.getElem_cons_zero, List.getElem_cons_succ]
          refine if_wanted (by rfl) ?_
          refine wp_append_txt _ (.tmp 16) (.tmp 28) 23 rfl E 5 i0 (.int .u8 0) 1 Try.underlying23 HI.out.1 HI.out.2.1 HI.out.2.2.1 HI.out.2.2.2 rfl _ n0 (nums l0) rfl HO4.out (fun _ => True) (some ⟨F, 0, none⟩) 4 4 (Cm.bytes x) rfl (txt_whole HF4.out (byt_bytes x)) (by unfold maxLen; omega) (by omega) (Nat.le_of_lt (Nat.lt_of_le_of_lt (own_lt HO4.out).1 (own_lt HO4.out).2)) ?_
          intro u5 v5 hown hg hq
          have HT5 : Hid (∃ a c, u5 = .slice a (n0 + 4) c ∧ Txt v5 (fun _ => True) a (n0 + 4) c (l0 ++ Cm.bytes x)) := Lib.hid (by
            rw [← nums_append] at hown
            obtain ⟨a, c, e, ht⟩ := Txt.own hown (byt_append H0.out.2.2.1 (byt_bytes x))
            exact ⟨a, c, e, ht.weak fun _ _ _ => trivial⟩)
          obtain ⟨q5, cap5, rfl, hT5⟩ := HT5.out
          clear HT5
          have HT5 := Lib.hid hT5
          have HG5 := Lib.hid (HG4.out.grown hg (slice_ne (Ne.symm neQG)))
          have HB5 : Hid (Below B w v5) := Lib.hid (HB4.out.grown hg zB4 (fun k hk => slice_row hk gQ))
          have zB5 : B ≤ v5.heap.size := Nat.le_trans zB4 hg.size
          clear hown hg hq hT5
          clear HO4 HF4 HG4 HB4
          refine hK.out _ _ trivial (fun hHeld => ?_)
          clear hK K
          try simp only [Act.put, List.getElem_toArray, List.getElem_cons_zero, List.getElem_cons_succ, List.setIfInBounds_toArray, List.set_cons_zero, List.set_cons_succ]
          refine wpAnyH_ready (rs := [18]) (by kernel_rfl) (by simp) (AllReadyH.cons rfl (fun K hK => ?_) AllReadyH.nil)
          try simp only [List.getElem_toArray, List.getElem_cons_zero, List.getElem_cons_succ]
          go_simp
          go_at_call 12
          refine (sum_any HT5.out (by omega)).mono ?_
          rintro e v6 ⟨rfl, hb5⟩
          rw [HEV.out]
          have HG6 := Lib.hid (HG5.out.below hb5 HG5.out.lt)
          have HB6 : Hid (Below B w v6) := Lib.hid (HB5.out.trans (hb5.mono zB5))
          have zB6 : B ≤ v6.heap.size := Nat.le_trans zB5 hb5.size
          clear hb5
          clear HT5 HG5 HB5
          go_wp2_with fail
          refine hK.out _ _ trivial (fun hHeld => ?_)
          clear hK K
          try simp only [Act.put, List.getElem_toArray, List.getElem_cons_zero, List.getElem_cons_succ, List.setIfInBounds_toArray, List.set_cons_zero, List.set_cons_succ]
          refine wpAnyH_ready (rs := [20]) (by kernel_rfl) (by simp) (AllReadyH.cons rfl (fun K hK => ?_) AllReadyH.nil)
          try simp only [List.getElem_toArray, List.getElem_cons_zero, List.getElem_cons_succ]
          go_simp
          go_at_call 12
          refine (sum_any (txt_whole HG6.out (byt_zeros 4)) (by simp [zeros])).mono ?_
          rintro e v7 ⟨rfl, hb6⟩
          have HB7 : Hid (Below B w v7) := Lib.hid (HB6.out.trans (hb6.mono zB6))
          have zB7 : B ≤ v7.heap.size := Nat.le_trans zB6 hb6.size
          clear hb6
          clear HG6 HB6
          go_wp2_with fail
          refine hK.out _ _ trivial (fun hHeld => ?_)
          clear hK K
          try simp only [Act.put, List.getElem_toArray, List.getElem_cons_zero, List.getElem_cons_succ, List.setIfInBounds_toArray, List.set_cons_zero, List.set_cons_succ]
          refine wpAnyH_take (i := 21) (v := .bool true) rfl (by kernel_rfl) (by kernel_rfl) (by kernel_rfl) (fun _ _ _ h => h) (Or.inl ⟨by rfl, (by intro w hSw; (try dsimp only at hSw); go_simp)⟩) (by assumption) ?_
          try simp only [Act.put, List.getElem_toArray, List.getElem_cons_zero, List.getElem_cons_succ, List.setIfInBounds_toArray, List.set_cons_zero, List.set_cons_succ]
          refine wpAnyH_take (i := 22) (v := .bool true) rfl (by kernel_rfl) (by kernel_rfl) (by kernel_rfl) (fun _ _ _ h => h) (Or.inl ⟨by rfl, (by intro w hSw; (try dsimp only at hSw); go_simp)⟩) (by assumption) ?_
          try simp only [Act.put, List.getElem_toArray, List.getElem_cons_zero, List.getElem_cons_succ, List.setIfInBounds_toArray, List.set_cons_zero, List.set_cons_succ]
          refine wpAnyH_take (i := 23) (v := .bool true) rfl (by kernel_rfl) (by kernel_rfl) (by kernel_rfl) (fun _ _ _ h => h) (Or.inl ⟨by rfl, (by intro w hSw; (try dsimp only at hSw); go_simp)⟩) (by assumption) ?_
          try simp only [Act.put, List.getElem_toArray, List.getElem_cons_zero, List.getElem_cons_succ, List.setIfInBounds_toArray, List.set_cons_zero, List.set_cons_succ]
          refine wpAnyH_done (by kernel_rfl) ?_ _
          go_wp2
          go_ret
          exact ⟨rfl, by rw [HBE.out]; exact HB7.out⟩
      · skip
        try simp only [List.getElem_toArray, List.getElem_cons_zero, List.getElem_cons_succ]
        go_simp
        refine hK.out _ _ trivial (fun hHeld => ?_)
        clear hK K
        try simp only [Act.put, List.getElem_toArray, List.getElem_cons_zero, List.getElem_cons_succ, List.setIfInBounds_toArray, List.set_cons_zero, List.set_cons_succ]
        have hG3 := Whole.new v2 5 (nums (zeros 4)).toArray
        have hb2 := below_alloc v2 (.cells (nums (zeros 4)).toArray 5)
        generalize v2.alloc (.cells (nums (zeros 4)).toArray 5) = v3 at *
        have HO3 := Lib.hid (own_keep HO2.out hb2)
        have HB3 : Hid (Below B w v3) := Lib.hid (HB2.out.trans (hb2.mono zB2))
        have zB3 : B ≤ v3.heap.size := Nat.le_trans zB2 hb2.size
        have neQG : Q ≠ v2.heap.size := Nat.ne_of_lt (own_lt HO2.out).2
        generalize v2.heap.size = G at *
        have HG3 := Lib.hid hG3
        clear hG3 hb2
        clear HO2 HB2
        refine wpAnyH_ready (rs := [16]) (by kernel_rfl) (by simp) (AllReadyH.cons rfl (fun K hK => ?_) AllReadyH.nil)
        try simp only [List.getElem_toArray, List.getElem_cons_zero, List.getElem_cons_succ]
        go_simp
        rw [cells_bytes]
        refine hK.out _ _ trivial (fun hHeld => ?_)
        clear hK K
        try simp only [Act.put, List.getElem_toArray, List.getElem_cons_zero, List.getElem_cons_succ, List.setIfInBounds_toArray, List.set_cons_zero, List.set_cons_succ]
        have hF4 := Whole.new v3 5 (nums (Cm.bytes x)).toArray
        have hb3 := below_alloc v3 (.cells (nums (Cm.bytes x)).toArray 5)
        generalize v3.alloc (.cells (nums (Cm.bytes x)).toArray 5) = v4 at *
        have HO4 := Lib.hid (own_keep HO3.out hb3)
        have HG4 := Lib.hid (HG3.out.below hb3 HG3.out.lt)
        have HB4 : Hid (Below B w v4) := Lib.hid (HB3.out.trans (hb3.mono zB3))
        have zB4 : B ≤ v4.heap.size := Nat.le_trans zB3 hb3.size
        have neQF : Q ≠ v3.heap.size := Nat.ne_of_lt (own_lt HO3.out).2
        have neGF : G ≠ v3.heap.size := Nat.ne_of_lt HG3.out.lt
        generalize v3.heap.size = F at *
        have HF4 := Lib.hid hF4
        clear hF4 hb3
        clear HO3 HG3 HB3
        refine wpAnyH_ready (rs := [17]) (by kernel_rfl) (by simp) (AllReadyH.cons rfl (fun K hK => ?_) AllReadyH.nil)
        try simp only [List.getElem_toArray, List.getElem_cons_zero, List.getElem_cons_succ]
        refine if_wanted (by rfl) ?_
        refine wp_append_txt _ (.tmp 16) (.tmp 28) 23 rfl E 5 i0 (.int .u8 0) 1 Try.underlying23 HI.out.1 HI.out.2.1 HI.out.2.2.1 HI.out.2.2.2 rfl _ n0 (nums l0) rfl HO4.out (fun _ => True) (some ⟨F, 0, none⟩) 4 4 (Cm.bytes x) rfl (txt_whole HF4.out (byt_bytes x)) (by unfold maxLen; omega) (by omega) (Nat.le_of_lt (Nat.lt_of_le_of_lt (own_lt HO4.out).1 (own_lt HO4.out).2)) ?_
        intro u5 v5 hown hg hq
        have HT5 : Hid (∃ a c, u5 = .slice a (n0 + 4) c ∧ Txt v5 (fun _ => True) a (n0 + 4) c (l0 ++ Cm.bytes x)) := Lib.hid (by
          rw [← nums_append] at hown
          obtain ⟨a, c, e, ht⟩ := Txt.own hown (byt_append H0.out.2.2.1 (byt_bytes x))
          exact ⟨a, c, e, ht.weak fun _ _ _ => trivial⟩)
        obtain ⟨q5, cap5, rfl, hT5⟩ := HT5.out
        clear HT5
        have HT5 := Lib.hid hT5
        have HG5 := Lib.hid (HG4.out.grown hg (slice_ne (Ne.symm neQG)))
        have HB5 : Hid (Below B w v5) := Lib.hid (HB4.out.grown hg zB4 (fun k hk => slice_row hk gQ))
        have zB5 : B ≤ v5.heap.size := Nat.le_trans zB4 hg.size
        clear hown hg hq hT5
        clear HO4 HF4 HG4 HB4
        refine hK.out _ _ trivial (fun hHeld => ?_)
        clear hK K
        try simp only [Act.put, List.getElem_toArray, List.getElem_cons_zero, List.getElem_cons_succ, List.setIfInBounds_toArray, List.set_cons_zero, List.set_cons_succ]
        refine wpAnyH_ready (rs := [18]) (by kernel_rfl) (by simp) (AllReadyH.cons rfl (fun K hK => ?_) AllReadyH.nil)
        try simp only [List.getElem_toArray, List.getElem_cons_zero, List.getElem_cons_succ]
        go_simp
        go_at_call 12
        refine (sum_any HT5.out (by omega)).mono ?_
        rintro e v6 ⟨rfl, hb5⟩
        rw [HEV.out]
        have HG6 := Lib.hid (HG5.out.below hb5 HG5.out.lt)
        have HB6 : Hid (Below B w v6) := Lib.hid (HB5.out.trans (hb5.mono zB5))
        have zB6 : B ≤ v6.heap.size := Nat.le_trans zB5 hb5.size
        clear hb5
        clear HT5 HG5 HB5
        go_wp2_with fail
        refine hK.out _ _ trivial (fun hHeld => ?_)
        clear hK K
        try simp only [Act.put, List.getElem_toArray, List.getElem_cons_zero, List.getElem_cons_succ, List.setIfInBounds_toArray, List.set_cons_zero, List.set_cons_succ]
        refine wpAnyH_ready (rs := [20]) (by kernel_rfl) (by simp) (AllReadyH.cons rfl (fun K hK => ?_) AllReadyH.nil)
        try simp only [List.getElem_toArray, List.getElem_cons_zero, List.getElem_cons_succ]
        go_simp
        go_at_call 12
        refine (sum_any (txt_whole HG6.out (byt_zeros 4)) (by simp [zeros])).mono ?_
        rintro e v7 ⟨rfl, hb6⟩
        have HB7 : Hid (Below B w v7) := Lib.hid (HB6.out.trans (hb6.mono zB6))
        have zB7 : B ≤ v7.heap.size := Nat.le_trans zB6 hb6.size
        clear hb6
        clear HG6 HB6
        go_wp2_with fail
        refine hK.out _ _ trivial (fun hHeld => ?_)
        clear hK K
        try simp only [Act.put, List.getElem_toArray, List.getElem_cons_zero, List.getElem_cons_succ, List.setIfInBounds_toArray, List.set_cons_zero, List.set_cons_succ]
        refine wpAnyH_take (i := 21) (v := .bool true) rfl (by kernel_rfl) (by kernel_rfl) (by kernel_rfl) (fun _ _ _ h => h) (Or.inl ⟨by rfl, (by intro w hSw; (try dsimp only at hSw); go_simp)⟩) (by assumption) ?_
        try simp only [Act.put, List.getElem_toArray, List.getElem_cons_zero, List.getElem_cons_succ, List.setIfInBounds_toArray, List.set_cons_zero, List.set_cons_succ]
        refine wpAnyH_take (i := 22) (v := .bool true) rfl (by kernel_rfl) (by kernel_rfl) (by kernel_rfl) (fun _ _ _ h => h) (Or.inl ⟨by rfl, (by intro w hSw; (try dsimp only at hSw); go_simp)⟩) (by assumption) ?_
        try simp only [Act.put, List.getElem_toArray, List.getElem_cons_zero, List.getElem_cons_succ, List.setIfInBounds_toArray, List.set_cons_zero, List.set_cons_succ]
        refine wpAnyH_take (i := 23) (v := .bool true) rfl (by kernel_rfl) (by kernel_rfl) (by kernel_rfl) (fun _ _ _ h => h) (Or.inl ⟨by rfl, (by intro w hSw; (try dsimp only at hSw); go_simp)⟩) (by assumption) ?_
        try simp only [Act.put, List.getElem_toArray, List.getElem_cons_zero, List.getElem_cons_succ, List.setIfInBounds_toArray, List.set_cons_zero, List.set_cons_succ]
        refine wpAnyH_done (by kernel_rfl) ?_ _
        go_wp2
        go_ret
        exact ⟨rfl, by rw [HBE.out]; exact HB7.out⟩
    · skip
      try simp only [List.getElem_toArray, List.getElem_cons_zero, List.getElem_cons_succ]
      go_simp
      rw [cells_bytes]
      refine hK.out _ _ trivial (fun hHeld => ?_)
      clear hK K
      try simp only [Act.put, List.getElem_toArray, List.getElem_cons_zero, List.getElem_cons_succ, List.setIfInBounds_toArray, List.set_cons_zero, List.set_cons_succ]
      have hF2 := Whole.new v1 5 (nums (Cm.bytes x)).toArray
      have hb1 := below_alloc v1 (.cells (nums (Cm.bytes x)).toArray 5)
      generalize v1.alloc (.cells (nums (Cm.bytes x)).toArray 5) = v2 at *
      have HE2 := Lib.hid (HE1.out.below hb1 HE1.out.lt)
      have HB2 : Hid (Below B w v2) := Lib.hid (HB1.out.trans (hb1.mono zB1))
      have zB2 : B ≤ v2.heap.size := Nat.le_trans zB1 hb1.size
      have neEF : E ≠ v1.heap.size := Nat.ne_of_lt HE1.out.lt
      generalize v1.heap.size = F at *
      have HF2 := Lib.hid hF2
      clear hF2 hb1
      clear HE1 HB1
      refine wpAnyH_ready (rs := [4, 19]) (by kernel_rfl) (by simp) (AllReadyH.cons rfl (fun K hK => ?_) (AllReadyH.cons rfl (fun K hK => ?_) AllReadyH.nil))
      · skip
        try simp only [List.getElem_toArray, List.getElem_cons_zero, List.getElem_cons_succ]
        refine if_wanted (by rfl) ?_
        refine wp_append_txt _ (.tmp 14) (.tmp 15) 23 rfl E 5 i0 (.int .u8 0) 1 Try.underlying23 HI.out.1 HI.out.2.1 HI.out.2.2.1 HI.out.2.2.2 rfl _ 0 [] rfl (own_empty HE2.out) (· < B) a0 n0 c0 l0 rfl (H0.out.below HB2.out (fun _ _ h => h)) (by unfold maxLen; omega) (by omega) (Nat.le_of_lt HE2.out.lt) ?_
        intro u3 v3 hown hg hq
        have HO3 : Hid (v3.ownsRow E 5 1 u3 n0 (nums l0)) := Lib.hid (by rw [Nat.zero_add] at hown; exact hown)
        obtain ⟨Q, cap4, rfl, hQ⟩ := own_at HO3.out hq
        have neQF : Q ≠ F := by
          rcases hQ with rfl | rfl
          · exact neEF
          · exact Ne.symm (Nat.ne_of_lt HF2.out.lt)
        have HF3 := Lib.hid (HF2.out.grown hg (slice_ne (Ne.symm neEF)))
        have HB3 : Hid (Below B w v3) := Lib.hid (HB2.out.grown hg zB2 (fun k hk => slice_row hk gE))
        have zB3 : B ≤ v3.heap.size := Nat.le_trans zB2 hg.size
        have gQ : B ≤ Q := by
          rcases hQ with rfl | rfl
          · exact gE
          · exact zB2
        clear hown hg hq hQ
        clear HF2 HB2
        clear HE2
        refine hK.out _ _ trivial (fun hHeld => ?_)
        clear hK K
        try simp only [Act.put, List.getElem_toArray, List.getElem_cons_zero, List.getElem_cons_succ, List.setIfInBounds_toArray, List.set_cons_zero, List.set_cons_succ]
        refine wpAnyH_ready (rs := [17, 19]) (by kernel_rfl) (by simp) (AllReadyH.cons rfl (fun K hK => ?_) (AllReadyH.cons rfl (fun K hK => ?_) AllReadyH.nil))
        · skip
          try simp only [List.getElem_toArray, List.getElem_cons_zero, List.getElem_cons_succ]
          refine if_wanted (by rfl) ?_
          refine wp_append_txt _ (.tmp 16) (.tmp 28) 23 rfl E 5 i0 (.int .u8 0) 1 Try.underlying23 HI.out.1 HI.out.2.1 HI.out.2.2.1 HI.out.2.2.2 rfl _ n0 (nums l0) rfl HO3.out (fun _ => True) (some ⟨F, 0, none⟩) 4 4 (Cm.bytes x) rfl (txt_whole HF3.out (byt_bytes x)) (by unfold maxLen; omega) (by omega) (Nat.le_of_lt (Nat.lt_of_le_of_lt (own_lt HO3.out).1 (own_lt HO3.out).2)) ?_
          intro u4 v4 hown hg hq
          have HT4 : Hid (∃ a c, u4 = .slice a (n0 + 4) c ∧ Txt v4 (fun _ => True) a (n0 + 4) c (l0 ++ Cm.bytes x)) := Lib.hid (by
            rw [← nums_append] at hown
            obtain ⟨a, c, e, ht⟩ := Txt.own hown (byt_append H0.out.2.2.1 (byt_bytes x))
            exact ⟨a, c, e, ht.weak fun _ _ _ => trivial⟩)
          obtain ⟨q5, cap5, rfl, hT4⟩ := HT4.out
          clear HT4
          have HT4 := Lib.hid hT4
          have HB4 : Hid (Below B w v4) := Lib.hid (HB3.out.grown hg zB3 (fun k hk => slice_row hk gQ))
          have zB4 : B ≤ v4.heap.size := Nat.le_trans zB3 hg.size
          clear hown hg hq hT4
          clear HO3 HF3 HB3
          refine hK.out _ _ trivial (fun hHeld => ?_)
          clear hK K
          try simp only [Act.put, List.getElem_toArray, List.getElem_cons_zero, List.getElem_cons_succ, List.setIfInBounds_toArray, List.set_cons_zero, List.set_cons_succ]
          refine wpAnyH_ready (rs := [18, 19]) (by kernel_rfl) (by simp) (AllReadyH.cons rfl (fun K hK => ?_) (AllReadyH.cons rfl (fun K hK => ?_) AllReadyH.nil))
          · skip
            try simp only [List.getElem_toArray, List.getElem_cons_zero, List.getElem_cons_succ]
            go_simp
            go_at_call 12
            refine (sum_any HT4.out (by omega)).mono ?_
            rintro e v5 ⟨rfl, hb4⟩
            rw [HEV.out]
            have HB5 : Hid (Below B w v5) := Lib.hid (HB4.out.trans (hb4.mono zB4))
            have zB5 : B ≤ v5.heap.size := Nat.le_trans zB4 hb4.size
            clear hb4
            clear HT4 HB4
            go_wp2_with fail
            refine hK.out _ _ trivial (fun hHeld => ?_)
            clear hK K
            try simp only [Act.put, List.getElem_toArray, List.getElem_cons_zero, List.getElem_cons_succ, List.setIfInBounds_toArray, List.set_cons_zero, List.set_cons_succ]
            refine wpAnyH_ready (rs := [19]) (by kernel_rfl) (by simp) (AllReadyH.cons rfl (fun K hK => ?_) AllReadyH.nil)
            try simp only [List.getElem_toArray, List.getElem_cons_zero, List.getElem_cons_succ]
            go_simp
            refine hK.out _ _ trivial (fun hHeld => ?_)
            clear hK K
            try simp only [Act.put, List.getElem_toArray, List.getElem_cons_zero, List.getElem_cons_succ, List.setIfInBounds_toArray, List.set_cons_zero, List.set_cons_succ]
            have hG6 := Whole.new v5 5 (nums (zeros 4)).toArray
            have hb5 := below_alloc v5 (.cells (nums (zeros 4)).toArray 5)
            generalize v5.alloc (.cells (nums (zeros 4)).toArray 5) = v6 at *
            have HB6 : Hid (Below B w v6) := Lib.hid (HB5.out.trans (hb5.mono zB5))
            have zB6 : B ≤ v6.heap.size := Nat.le_trans zB5 hb5.size
            generalize v5.heap.size = G at *
            have HG6 := Lib.hid hG6
            clear hG6 hb5
            clear HB5
            refine wpAnyH_ready (rs := [20]) (by kernel_rfl) (by simp) (AllReadyH.cons rfl (fun K hK => ?_) AllReadyH.nil)
            try simp only [List.getElem_toArray, List.getElem_cons_zero, List.getElem_cons_succ]
            go_simp
            go_at_call 12
            refine (sum_any (txt_whole HG6.out (byt_zeros 4)) (by simp [zeros])).mono ?_
            rintro e v7 ⟨rfl, hb6⟩
            have HB7 : Hid (Below B w v7) := Lib.hid (HB6.out.trans (hb6.mono zB6))
            have zB7 : B ≤ v7.heap.size := Nat.le_trans zB6 hb6.size
            clear hb6
            clear HG6 HB6
            go_wp2_with fail
            refine hK.out _ _ trivial (fun hHeld => ?_)
            clear hK K
            try simp only [Act.put, List.getElem_toArray, List.getElem_cons_zero, List.getElem_cons_succ, List.setIfInBounds_toArray, List.set_cons_zero, List.set_cons_succ]
            refine wpAnyH_take (i := 21) (v := .bool true) rfl (by kernel_rfl) (by kernel_rfl) (by kernel_rfl) (fun _ _ _ h => h) (Or.inl ⟨by rfl, (by intro w hSw; (try dsimp only at hSw); go_simp)⟩) (by assumption) ?_
            try simp only [Act.put, List.getElem_toArray, List.getElem_cons_zero, List.getElem_cons_succ, List.setIfInBounds_toArray, List.set_cons_zero, List.set_cons_succ]
            refine wpAnyH_take (i := 22) (v := .bool true) rfl (by kernel_rfl) (by kernel_rfl) (by kernel_rfl) (fun _ _ _ h => h) (Or.inl ⟨by rfl, (by intro w hSw; (try dsimp only at hSw); go_simp)⟩) (by assumption) ?_
            try simp only [Act.put, List.getElem_toArray, List.getElem_cons_zero, List.getElem_cons_succ, List.setIfInBounds_toArray, List.set_cons_zero, List.set_cons_succ]
            refine wpAnyH_take (i := 23) (v := .bool true) rfl (by kernel_rfl) (by kernel_rfl) (by kernel_rfl) (fun _ _ _ h => h) (Or.inl ⟨by rfl, (by intro w hSw; (try dsimp only at hSw); go_simp)⟩) (by assumption) ?_
            try simp only [Act.put, List.getElem_toArray, List.getElem_cons_zero, List.getElem_cons_succ, List.setIfInBounds_toArray, List.set_cons_zero, List.set_cons_succ]
            refine wpAnyH_done (by kernel_rfl) ?_ _
            go_wp2
            go_ret
            exact ⟨rfl, by rw [HBE.out]; exact HB7.out⟩
          · skip
            try simp only [List.getElem_toArray, List.getElem_cons_zero, List.getElem_cons_succ]
            go_simp
            refine hK.out _ _ trivial (fun hHeld => ?_)
            clear hK K
            try simp only [Act.put, List.getElem_toArray, List.getElem_cons_zero, List.getElem_cons_succ, List.setIfInBounds_toArray, List.set_cons_zero, List.set_cons_succ]
            have hG5 := Whole.new v4 5 (nums (zeros 4)).toArray
            have hb4 := below_alloc v4 (.cells (nums (zeros 4)).toArray 5)
            generalize v4.alloc (.cells (nums (zeros 4)).toArray 5) = v5 at *
            have HT5 := Lib.hid (HT4.out.below hb4 (fun _ h _ => h))
            have HB5 : Hid (Below B w v5) := Lib.hid (HB4.out.trans (hb4.mono zB4))
            have zB5 : B ≤ v5.heap.size := Nat.le_trans zB4 hb4.size
            generalize v4.heap.size = G at *
            have HG5 := Lib.hid hG5
            clear hG5 hb4
            clear HT4 HB4
            refine wpAnyH_ready (rs := [18]) (by kernel_rfl) (by simp) (AllReadyH.cons rfl (fun K hK => ?_) AllReadyH.nil)
            try simp only [List.getElem_toArray, List.getElem_cons_zero, List.getElem_cons_succ]
            go_simp
            go_at_call 12
            refine (sum_any HT5.out (by omega)).mono ?_
            rintro e v6 ⟨rfl, hb5⟩
            rw [HEV.out]
            have HG6 := Lib.hid (HG5.out.below hb5 HG5.out.lt)
            have HB6 : Hid (Below B w v6) := Lib.hid (HB5.out.trans (hb5.mono zB5))
            have zB6 : B ≤ v6.heap.size := Nat.le_trans zB5 hb5.size
            clear hb5
            clear HT5 HG5 HB5
            go_wp2_with fail
            refine hK.out _ _ trivial (fun hHeld => ?_)
            clear hK K
            try simp only [Act.put, List.getElem_toArray, List.getElem_cons_zero, List.getElem_cons_succ, List.setIfInBounds_toArray, List.set_cons_zero, List.set_cons_succ]
            refine wpAnyH_ready (rs := [20]) (by kernel_rfl) (by simp) (AllReadyH.cons rfl (fun K hK => ?_) AllReadyH.nil)
            try simp only [List.getElem_toArray, List.getElem_cons_zero, List.getElem_cons_succ]
            go_simp
            go_at_call 12
            refine (sum_any (txt_whole HG6.out (byt_zeros 4)) (by simp [zeros])).mono ?_
            rintro e v7 ⟨rfl, hb6⟩
            have HB7 : Hid (Below B w v7) := Lib.hid (HB6.out.trans (hb6.mono zB6))
            have zB7 : B ≤ v7.heap.size := Nat.le_trans zB6 hb6.size
            clear hb6
            clear HG6 HB6
            go_wp2_with fail
            refine hK.out _ _ trivial (fun hHeld => ?_)
            clear hK K
            try simp only [Act.put, List.getElem_toArray, List.getElem_cons_zero, List.getElem_cons_succ, List.setIfInBounds_toArray, List.set_cons_zero, List.set_cons_succ]
            refine wpAnyH_take (i := 21) (v := .bool true) rfl (by kernel_rfl) (by kernel_rfl) (by kernel_rfl) (fun _ _ _ h => h) (Or.inl ⟨by rfl, (by intro w hSw; (try dsimp only at hSw); go_simp)⟩) (by assumption) ?_
            try simp only [Act.put, List.getElem_toArray, List.getElem_cons_zero, List.getElem_cons_succ, List.setIfInBounds_toArray, List.set_cons_zero, List.set_cons_succ]
            refine wpAnyH_take (i := 22) (v := .bool true) rfl (by kernel_rfl) (by kernel_rfl) (by kernel_rfl) (fun _ _ _ h => h) (Or.inl ⟨by rfl, (by intro w hSw; (try dsimp only at hSw); go_simp)⟩) (by assumption) ?_
            try simp only [Act.put, List.getElem_toArray, List.getElem_cons_zero, List.getElem_cons_succ, List.setIfInBounds_toArray, List.set_cons_zero, List.set_cons_succ]
            refine wpAnyH_take (i := 23) (v := .bool true) rfl (by kernel_rfl) (by kernel_rfl) (by kernel_rfl) (fun _ _ _ h => h) (Or.inl ⟨by rfl, (by intro w hSw; (try dsimp only at hSw); go_simp)⟩) (by assumption) ?_
            try simp only [Act.put, List.getElem_toArray, List.getElem_cons_zero, List.getElem_cons_succ, List.setIfInBounds_toArray, List.set_cons_zero, List.set_cons_succ]
            refine wpAnyH_done (by kernel_rfl) ?_ _
            go_wp2
            go_ret
            exact ⟨rfl, by rw [HBE.out]; exact HB7.out⟩
        · skip
          try simp only [List.getElem_toArray, List.getElem_cons_zero, List.getElem_cons_succ]
          go_simp
          refine hK.out _ _ trivial (fun hHeld => ?_)
          clear hK K
          try simp only [Act.put, List.getElem_toArray, List.getElem_cons_zero, List.getElem_cons_succ, List.setIfInBounds_toArray, List.set_cons_zero, List.set_cons_succ]
          have hG4 := Whole.new v3 5 (nums (zeros 4)).toArray
          have hb3 := below_alloc v3 (.cells (nums (zeros 4)).toArray 5)
          generalize v3.alloc (.cells (nums (zeros 4)).toArray 5) = v4 at *
          have HO4 := Lib.hid (own_keep HO3.out hb3)
          have HF4 := Lib.hid (HF3.out.below hb3 HF3.out.lt)
          have HB4 : Hid (Below B w v4) := Lib.hid (HB3.out.trans (hb3.mono zB3))
          have zB4 : B ≤ v4.heap.size := Nat.le_trans zB3 hb3.size
          have neQG : Q ≠ v3.heap.size := Nat.ne_of_lt (own_lt HO3.out).2
          have neFG : F ≠ v3.heap.size := Nat.ne_of_lt HF3.out.lt
          generalize v3.heap.size = G at *
          have HG4 := Lib.hid hG4
          clear hG4 hb3
          clear HO3 HF3 HB3
          refine wpAnyH_ready (rs := [17]) (by kernel_rfl) (by simp) (AllReadyH.cons rfl (fun K hK => ?_) AllReadyH.nil)
          try simp only [List.getElem_toArray, List.getElem_cons_zero, List.getElem_cons_succ]
          refine if_wanted (by rfl) ?_
          refine wp_append_txt _ (.tmp 16) (.tmp 28) 23 rfl E 5 i0 (.int .u8 0) 1 Try.underlying23 HI.out.1 HI.out.2.1 HI.out.2.2.1 HI.out.2.2.2 rfl _ n0 (nums l0) rfl HO4.out (fun _ => True) (some ⟨F, 0, none⟩) 4 4 (Cm.bytes x) rfl (txt_whole HF4.out (byt_bytes x)) (by unfold maxLen; omega) (by omega) (Nat.le_of_lt (Nat.lt_of_le_of_lt (own_lt HO4.out).1 (own_lt HO4.out).2)) ?_
          intro u5 v5 hown hg hq
          have HT5 : Hid (∃ a c, u5 = .slice a (n0 + 4) c ∧ Txt v5 (fun _ => True) a (n0 + 4) c (l0 ++ Cm.bytes x)) := Lib.hid (by
            rw [← nums_append] at hown
            obtain ⟨a, c, e, ht⟩ := Txt.own hown (byt_append H0.out.2.2.1 (byt_bytes x))
            exact ⟨a, c, e, ht.weak fun _ _ _ => trivial⟩)
          obtain ⟨q5, cap5, rfl, hT5⟩ := HT5.out
          clear HT5
          have HT5 := Lib.hid hT5
          have HG5 := Lib.hid (HG4.out.grown hg (slice_ne (Ne.symm neQG)))
          have HB5 : Hid (Below B w v5) := Lib.hid (HB4.out.grown hg zB4 (fun k hk => slice_row hk gQ))
          have zB5 : B ≤ v5.heap.size := Nat.le_trans zB4 hg.size
          clear hown hg hq hT5
          clear HO4 HF4 HG4 HB4
          refine hK.out _ _ trivial (fun hHeld => ?_)
          clear hK K
          try simp only [Act.put, List.getElem_toArray, List.getElem_cons_zero, List.getElem_cons_succ, List.setIfInBounds_toArray, List.set_cons_zero, List.set_cons_succ]
          refine wpAnyH_ready (rs := [18]) (by kernel_rfl) (by simp) (AllReadyH.cons rfl (fun K hK => ?_) AllReadyH.nil)
          try simp only [List.getElem_toArray, List.getElem_cons_zero, List.getElem_cons_succ]
          go_simp
          go_at_call 12
          refine (sum_any HT5.out (by omega)).mono ?_
          rintro e v6 ⟨rfl, hb5⟩
          rw [HEV.out]
          have HG6 := Lib.hid (HG5.out.below hb5 HG5.out.lt)
          have HB6 : Hid (Below B w v6) := Lib.hid (HB5.out.trans (hb5.mono zB5))
          have zB6 : B ≤ v6.heap.size := Nat.le_trans zB5 hb5.size
          clear hb5
          clear HT5 HG5 HB5
          go_wp2_with fail
          refine hK.out _ _ trivial (fun hHeld => ?_)
          clear hK K
          try simp only [Act.put, List.getElem_toArray, List.getElem_cons_zero, List.getElem_cons_succ, List.setIfInBounds_toArray, List.set_cons_zero, List.set_cons_succ]
          refine wpAnyH_ready (rs := [20]) (by kernel_rfl) (by simp) (AllReadyH.cons rfl (fun K hK => ?_) AllReadyH.nil)
          try simp only [List.getElem_toArray, List.getElem_cons_zero, List.getElem_cons_succ]
          go_simp
          go_at_call 12
          refine (sum_any (txt_whole HG6.out (byt_zeros 4)) (by simp [zeros])).mono ?_
          rintro e v7 ⟨rfl, hb6⟩
          have HB7 : Hid (Below B w v7) := Lib.hid (HB6.out.trans (hb6.mono zB6))
          have zB7 : B ≤ v7.heap.size := Nat.le_trans zB6 hb6.size
          clear hb6
          clear HG6 HB6
          go_wp2_with fail
          refine hK.out _ _ trivial (fun hHeld => ?_)
          clear hK K
          try simp only [Act.put, List.getElem_toArray, List.getElem_cons_zero, List.getElem_cons_succ, List.setIfInBounds_toArray, List.set_cons_zero, List.set_cons_succ]
          refine wpAnyH_take (i := 21) (v := .bool true) rfl (by kernel_rfl) (by kernel_rfl) (by kernel_rfl) (fun _ _ _ h => h) (Or.inl ⟨by rfl, (by intro w hSw; (try dsimp only at hSw); go_simp)⟩) (by assumption) ?_
          try simp only [Act.put, List.getElem_toArray, List.getElem_cons_zero, List.getElem_cons_succ, List.setIfInBounds_toArray, List.set_cons_zero, List.set_cons_succ]
          refine wpAnyH_take (i := 22) (v := .bool true) rfl (by kernel_rfl) (by kernel_rfl) (by kernel_rfl) (fun _ _ _ h => h) (Or.inl ⟨by rfl, (by intro w hSw; (try dsimp only at hSw); go_simp)⟩) (by assumption) ?_
          try simp only [Act.put, List.getElem_toArray, List.getElem_cons_zero, List.getElem_cons_succ, List.setIfInBounds_toArray, List.set_cons_zero, List.set_cons_succ]
          refine wpAnyH_take (i := 23) (v := .bool true) rfl (by kernel_rfl) (by kernel_rfl) (by kernel_rfl) (fun _ _ _ h => h) (Or.inl ⟨by rfl, (by intro w hSw; (try dsimp only at hSw); go_simp)⟩) (by assumption) ?_
          try simp only [Act.put, List.getElem_toArray, List.getElem_cons_zero, List.getElem_cons_succ, List.setIfInBounds_toArray, List.set_cons_zero, List.set_cons_succ]
          refine wpAnyH_done (by kernel_rfl) ?_ _
          go_wp2
          go_ret
          exact ⟨rfl, by rw [HBE.out]; exact HB7.out⟩
      · skip
        try simp only [List.getElem_toArray, List.getElem_cons_zero, List.getElem_cons_succ]
        go_simp
        refine hK.out _ _ trivial (fun hHeld => ?_)
        clear hK K
        try simp only [Act.put, List.getElem_toArray, List.getElem_cons_zero, List.getElem_cons_succ, List.setIfInBounds_toArray, List.set_cons_zero, List.set_cons_succ]
        have hG3 := Whole.new v2 5 (nums (zeros 4)).toArray
        have hb2 := below_alloc v2 (.cells (nums (zeros 4)).toArray 5)
        generalize v2.alloc (.cells (nums (zeros 4)).toArray 5) = v3 at *
        have HE3 := Lib.hid (HE2.out.below hb2 HE2.out.lt)
        have HF3 := Lib.hid (HF2.out.below hb2 HF2.out.lt)
        have HB3 : Hid (Below B w v3) := Lib.hid (HB2.out.trans (hb2.mono zB2))
        have zB3 : B ≤ v3.heap.size := Nat.le_trans zB2 hb2.size
        have neEG : E ≠ v2.heap.size := Nat.ne_of_lt HE2.out.lt
        have neFG : F ≠ v2.heap.size := Nat.ne_of_lt HF2.out.lt
        generalize v2.heap.size = G at *
        have HG3 := Lib.hid hG3
        clear hG3 hb2
        clear HE2 HF2 HB2
        refine wpAnyH_ready (rs := [4]) (by kernel_rfl) (by simp) (AllReadyH.cons rfl (fun K hK => ?_) AllReadyH.nil)
        try simp only [List.getElem_toArray, List.getElem_cons_zero, List.getElem_cons_succ]
        refine if_wanted (by rfl) ?_
        refine wp_append_txt _ (.tmp 14) (.tmp 15) 23 rfl E 5 i0 (.int .u8 0) 1 Try.underlying23 HI.out.1 HI.out.2.1 HI.out.2.2.1 HI.out.2.2.2 rfl _ 0 [] rfl (own_empty HE3.out) (· < B) a0 n0 c0 l0 rfl (H0.out.below HB3.out (fun _ _ h => h)) (by unfold maxLen; omega) (by omega) (Nat.le_of_lt HE3.out.lt) ?_
        intro u4 v4 hown hg hq
        have HO4 : Hid (v4.ownsRow E 5 1 u4 n0 (nums l0)) := Lib.hid (by rw [Nat.zero_add] at hown; exact hown)
        obtain ⟨Q, cap4, rfl, hQ⟩ := own_at HO4.out hq
        have neQF : Q ≠ F := by
          rcases hQ with rfl | rfl
          · exact neEF
          · exact Ne.symm (Nat.ne_of_lt HF3.out.lt)
        have HF4 := Lib.hid (HF3.out.grown hg (slice_ne (Ne.symm neEF)))
        have neQG : Q ≠ G := by
          rcases hQ with rfl | rfl
          · exact neEG
          · exact Ne.symm (Nat.ne_of_lt HG3.out.lt)
        have HG4 := Lib.hid (HG3.out.grown hg (slice_ne (Ne.symm neEG)))
        have HB4 : Hid (Below B w v4) := Lib.hid (HB3.out.grown hg zB3 (fun k hk => slice_row hk gE))
        have zB4 : B ≤ v4.heap.size := Nat.le_trans zB3 hg.size
        have gQ : B ≤ Q := by
          rcases hQ with rfl | rfl
          · exact gE
          · exact zB3
        clear hown hg hq hQ
        clear HF3 HG3 HB3
        clear HE3
        refine hK.out _ _ trivial (fun hHeld => ?_)
        clear hK K
        try simp only [Act.put, List.getElem_toArray, List.getElem_cons_zero, List.getElem_cons_succ, List.setIfInBounds_toArray, List.set_cons_zero, List.set_cons_succ]
        refine wpAnyH_ready (rs := [17]) (by kernel_rfl) (by simp) (AllReadyH.cons rfl (fun K hK => ?_) AllReadyH.nil)
        try simp only [List.getElem_toArray, List.getElem_cons_zero, List.getElem_cons_succ]
        refine if_wanted (by rfl) ?_
        refine wp_append_txt _ (.tmp 16) (.tmp 28) 23 rfl E 5 i0 (.int .u8 0) 1 Try.underlying23 HI.out.1 HI.out.2.1 HI.out.2.2.1 HI.out.2.2.2 rfl _ n0 (nums l0) rfl HO4.out (fun _ => True) (some ⟨F, 0, none⟩) 4 4 (Cm.bytes x) rfl (txt_whole HF4.out (byt_bytes x)) (by unfold maxLen; omega) (by omega) (Nat.le_of_lt (Nat.lt_of_le_of_lt (own_lt HO4.out).1 (own_lt HO4.out).2)) ?_
        intro u5 v5 hown hg hq
        have HT5 : Hid (∃ a c, u5 = .slice a (n0 + 4) c ∧ Txt v5 (fun _ => True) a (n0 + 4) c (l0 ++ Cm.bytes x)) := Lib.hid (by
          rw [← nums_append] at hown
          obtain ⟨a, c, e, ht⟩ := Txt.own hown (byt_append H0.out.2.2.1 (byt_bytes x))
          exact ⟨a, c, e, ht.weak fun _ _ _ => trivial⟩)
        obtain ⟨q5, cap5, rfl, hT5⟩ := HT5.out
        clear HT5
        have HT5 := Lib.hid hT5
        have HG5 := Lib.hid (HG4.out.grown hg (slice_ne (Ne.symm neQG)))
        have HB5 : Hid (Below B w v5) := Lib.hid (HB4.out.grown hg zB4 (fun k hk => slice_row hk gQ))
        have zB5 : B ≤ v5.heap.size := Nat.le_trans zB4 hg.size
        clear hown hg hq hT5
        clear HO4 HF4 HG4 HB4
        refine hK.out _ _ trivial (fun hHeld => ?_)
        clear hK K
        try simp only [Act.put, List.getElem_toArray, List.getElem_cons_zero, List.getElem_cons_succ, List.setIfInBounds_toArray, List.set_cons_zero, List.set_cons_succ]
        refine wpAnyH_ready (rs := [18]) (by kernel_rfl) (by simp) (AllReadyH.cons rfl (fun K hK => ?_) AllReadyH.nil)
        try simp only [List.getElem_toArray, List.getElem_cons_zero, List.getElem_cons_succ]
        go_simp
        go_at_call 12
        refine (sum_any HT5.out (by omega)).mono ?_
        rintro e v6 ⟨rfl, hb5⟩
        rw [HEV.out]
        have HG6 := Lib.hid (HG5.out.below hb5 HG5.out.lt)
        have HB6 : Hid (Below B w v6) := Lib.hid (HB5.out.trans (hb5.mono zB5))
        have zB6 : B ≤ v6.heap.size := Nat.le_trans zB5 hb5.size
        clear hb5
        clear HT5 HG5 HB5
        go_wp2_with fail
        refine hK.out _ _ trivial (fun hHeld => ?_)
        clear hK K
        try simp only [Act.put, List.getElem_toArray, List.getElem_cons_zero, List.getElem_cons_succ, List.setIfInBounds_toArray, List.set_cons_zero, List.set_cons_succ]
        refine wpAnyH_ready (rs := [20]) (by kernel_rfl) (by simp) (AllReadyH.cons rfl (fun K hK => ?_) AllReadyH.nil)
        try simp only [List.getElem_toArray, List.getElem_cons_zero, List.getElem_cons_succ]
        go_simp
        go_at_call 12
        refine (sum_any (txt_whole HG6.out (byt_zeros 4)) (by simp [zeros])).mono ?_
        rintro e v7 ⟨rfl, hb6⟩
        have HB7 : Hid (Below B w v7) := Lib.hid (HB6.out.trans (hb6.mono zB6))
        have zB7 : B ≤ v7.heap.size := Nat.le_trans zB6 hb6.size
        clear hb6
        clear HG6 HB6
        go_wp2_with fail
        refine hK.out _ _ trivial (fun hHeld => ?_)
        clear hK K
        try simp only [Act.put, List.getElem_toArray, List.getElem_cons_zero, List.getElem_cons_succ, List.setIfInBounds_toArray, List.set_cons_zero, List.set_cons_succ]
        refine wpAnyH_take (i := 21) (v := .bool true) rfl (by kernel_rfl) (by kernel_rfl) (by kernel_rfl) (fun _ _ _ h => h) (Or.inl ⟨by rfl, (by intro w hSw; (try dsimp only at hSw); go_simp)⟩) (by assumption) ?_
        try simp only [Act.put, List.getElem_toArray, List.getElem_cons_zero, List.getElem_cons_succ, List.setIfInBounds_toArray, List.set_cons_zero, List.set_cons_succ]
        refine wpAnyH_take (i := 22) (v := .bool true) rfl (by kernel_rfl) (by kernel_rfl) (by kernel_rfl) (fun _ _ _ h => h) (Or.inl ⟨by rfl, (by intro w hSw; (try dsimp only at hSw); go_simp)⟩) (by assumption) ?_
        try simp only [Act.put, List.getElem_toArray, List.getElem_cons_zero, List.getElem_cons_succ, List.setIfInBounds_toArray, List.set_cons_zero, List.set_cons_succ]
        refine wpAnyH_take (i := 23) (v := .bool true) rfl (by kernel_rfl) (by kernel_rfl) (by kernel_rfl) (fun _ _ _ h => h) (Or.inl ⟨by rfl, (by intro w hSw; (try dsimp only at hSw); go_simp)⟩) (by assumption) ?_
        try simp only [Act.put, List.getElem_toArray, List.getElem_cons_zero, List.getElem_cons_succ, List.setIfInBounds_toArray, List.set_cons_zero, List.set_cons_succ]
        refine wpAnyH_done (by kernel_rfl) ?_ _
        go_wp2
        go_ret
        exact ⟨rfl, by rw [HBE.out]; exact HB7.out⟩
    · skip
      try simp only [List.getElem_toArray, List.getElem_cons_zero, List.getElem_cons_succ]
      go_simp
      refine hK.out _ _ trivial (fun hHeld => ?_)
      clear hK K
      try simp only [Act.put, List.getElem_toArray, List.getElem_cons_zero, List.getElem_cons_succ, List.setIfInBounds_toArray, List.set_cons_zero, List.set_cons_succ]
      have hG2 := Whole.new v1 5 (nums (zeros 4)).toArray
      have hb1 := below_alloc v1 (.cells (nums (zeros 4)).toArray 5)
      generalize v1.alloc (.cells (nums (zeros 4)).toArray 5) = v2 at *
      have HE2 := Lib.hid (HE1.out.below hb1 HE1.out.lt)
      have HB2 : Hid (Below B w v2) := Lib.hid (HB1.out.trans (hb1.mono zB1))
      have zB2 : B ≤ v2.heap.size := Nat.le_trans zB1 hb1.size
      have neEG : E ≠ v1.heap.size := Nat.ne_of_lt HE1.out.lt
      generalize v1.heap.size = G at *
      have HG2 := Lib.hid hG2
      clear hG2 hb1
      clear HE1 HB1
      refine wpAnyH_ready (rs := [4, 16]) (by kernel_rfl) (by simp) (AllReadyH.cons rfl (fun K hK => ?_) (AllReadyH.cons rfl (fun K hK => ?_) AllReadyH.nil))
      · skip
        try simp only [List.getElem_toArray, List.getElem_cons_zero, List.getElem_cons_succ]
        refine if_wanted (by rfl) ?_
        refine wp_append_txt _ (.tmp 14) (.tmp 15) 23 rfl E 5 i0 (.int .u8 0) 1 Try.underlying23 HI.out.1 HI.out.2.1 HI.out.2.2.1 HI.out.2.2.2 rfl _ 0 [] rfl (own_empty HE2.out) (· < B) a0 n0 c0 l0 rfl (H0.out.below HB2.out (fun _ _ h => h)) (by unfold maxLen; omega) (by omega) (Nat.le_of_lt HE2.out.lt) ?_
        intro u3 v3 hown hg hq
        have HO3 : Hid (v3.ownsRow E 5 1 u3 n0 (nums l0)) := Lib.hid (by rw [Nat.zero_add] at hown; exact hown)
        obtain ⟨Q, cap4, rfl, hQ⟩ := own_at HO3.out hq
        have neQG : Q ≠ G := by
          rcases hQ with rfl | rfl
          · exact neEG
          · exact Ne.symm (Nat.ne_of_lt HG2.out.lt)
        have HG3 := Lib.hid (HG2.out.grown hg (slice_ne (Ne.symm neEG)))
        have HB3 : Hid (Below B w v3) := Lib.hid (HB2.out.grown hg zB2 (fun k hk => slice_row hk gE))
        have zB3 : B ≤ v3.heap.size := Nat.le_trans zB2 hg.size
        have gQ : B ≤ Q := by
          rcases hQ with rfl | rfl
          · exact gE
          · exact zB2
        clear hown hg hq hQ
        clear HG2 HB2
        clear HE2
        refine hK.out _ _ trivial (fun hHeld => ?_)
        clear hK K
        try simp only [Act.put, List.getElem_toArray, List.getElem_cons_zero, List.getElem_cons_succ, List.setIfInBounds_toArray, List.set_cons_zero, List.set_cons_succ]
        refine wpAnyH_ready (rs := [16]) (by kernel_rfl) (by simp) (AllReadyH.cons rfl (fun K hK => ?_) AllReadyH.nil)
        try simp only [List.getElem_toArray, List.getElem_cons_zero, List.getElem_cons_succ]
        go_simp
        rw [cells_bytes]
        refine hK.out _ _ trivial (fun hHeld => ?_)
        clear hK K
        try simp only [Act.put, List.getElem_toArray, List.getElem_cons_zero, List.getElem_cons_succ, List.setIfInBounds_toArray, List.set_cons_zero, List.set_cons_succ]
        have hF4 := Whole.new v3 5 (nums (Cm.bytes x)).toArray
        have hb3 := below_alloc v3 (.cells (nums (Cm.bytes x)).toArray 5)
        generalize v3.alloc (.cells (nums (Cm.bytes x)).toArray 5) = v4 at *
        have HO4 := Lib.hid (own_keep HO3.out hb3)
        have HG4 := Lib.hid (HG3.out.below hb3 HG3.out.lt)
        have HB4 : Hid (Below B w v4) := Lib.hid (HB3.out.trans (hb3.mono zB3))
        have zB4 : B ≤ v4.heap.size := Nat.le_trans zB3 hb3.size
        have neQF : Q ≠ v3.heap.size := Nat.ne_of_lt (own_lt HO3.out).2
        have neGF : G ≠ v3.heap.size := Nat.ne_of_lt HG3.out.lt
        generalize v3.heap.size = F at *
        have HF4 := Lib.hid hF4
        clear hF4 hb3
        clear HO3 HG3 HB3
        refine wpAnyH_ready (rs := [17]) (by kernel_rfl) (by simp) (AllReadyH.cons rfl (fun K hK => ?_) AllReadyH.nil)
        try simp only [List.getElem_toArray, List.getElem_cons_zero, List.getElem_cons_succ]
        refine if_wanted (by rfl) ?_
        refine wp_append_txt _ (.tmp 16) (.tmp 28) 23 rfl E 5 i0 (.int .u8 0) 1 Try.underlying23 HI.out.1 HI.out.2.1 HI.out.2.2.1 HI.out.2.2.2 rfl _ n0 (nums l0) rfl HO4.out (fun _ => True) (some ⟨F, 0, none⟩) 4 4 (Cm.bytes x) rfl (txt_whole HF4.out (byt_bytes x)) (by unfold maxLen; omega) (by omega) (Nat.le_of_lt (Nat.lt_of_le_of_lt (own_lt HO4.out).1 (own_lt HO4.out).2)) ?_
        intro u5 v5 hown hg hq
        have HT5 : Hid (∃ a c, u5 = .slice a (n0 + 4) c ∧ Txt v5 (fun _ => True) a (n0 + 4) c (l0 ++ Cm.bytes x)) := Lib.hid (by
          rw [← nums_append] at hown
          obtain ⟨a, c, e, ht⟩ := Txt.own hown (byt_append H0.out.2.2.1 (byt_bytes x))
          exact ⟨a, c, e, ht.weak fun _ _ _ => trivial⟩)
        obtain ⟨q5, cap5, rfl, hT5⟩ := HT5.out
        clear HT5
        have HT5 := Lib.hid hT5
        have HG5 := Lib.hid (HG4.out.grown hg (slice_ne (Ne.symm neQG)))
        have HB5 : Hid (Below B w v5) := Lib.hid (HB4.out.grown hg zB4 (fun k hk => slice_row hk gQ))
        have zB5 : B ≤ v5.heap.size := Nat.le_trans zB4 hg.size
        clear hown hg hq hT5
        clear HO4 HF4 HG4 HB4
        refine hK.out _ _ trivial (fun hHeld => ?_)
        clear hK K
        try simp only [Act.put, List.getElem_toArray, List.getElem_cons_zero, List.getElem_cons_succ, List.setIfInBounds_toArray, List.set_cons_zero, List.set_cons_succ]
        refine wpAnyH_ready (rs := [18]) (by kernel_rfl) (by simp) (AllReadyH.cons rfl (fun K hK => ?_) AllReadyH.nil)
        try simp only [List.getElem_toArray, List.getElem_cons_zero, List.getElem_cons_succ]
        go_simp
        go_at_call 12
        refine (sum_any HT5.out (by omega)).mono ?_
        rintro e v6 ⟨rfl, hb5⟩
        rw [HEV.out]
        have HG6 := Lib.hid (HG5.out.below hb5 HG5.out.lt)
        have HB6 : Hid (Below B w v6) := Lib.hid (HB5.out.trans (hb5.mono zB5))
        have zB6 : B ≤ v6.heap.size := Nat.le_trans zB5 hb5.size
        clear hb5
        clear HT5 HG5 HB5
        go_wp2_with fail
        refine hK.out _ _ trivial (fun hHeld => ?_)
        clear hK K
        try simp only [Act.put, List.getElem_toArray, List.getElem_cons_zero, List.getElem_cons_succ, List.setIfInBounds_toArray, List.set_cons_zero, List.set_cons_succ]
        refine wpAnyH_ready (rs := [20]) (by kernel_rfl) (by simp) (AllReadyH.cons rfl (fun K hK => ?_) AllReadyH.nil)
        try simp only [List.getElem_toArray, List.getElem_cons_zero, List.getElem_cons_succ]
        go_simp
        go_at_call 12
        refine (sum_any (txt_whole HG6.out (byt_zeros 4)) (by simp [zeros])).mono ?_
        rintro e v7 ⟨rfl, hb6⟩
        have HB7 : Hid (Below B w v7) := Lib.hid (HB6.out.trans (hb6.mono zB6))
        have zB7 : B ≤ v7.heap.size := Nat.le_trans zB6 hb6.size
        clear hb6
        clear HG6 HB6
        go_wp2_with fail
        refine hK.out _ _ trivial (fun hHeld => ?_)
        clear hK K
        try simp only [Act.put, List.getElem_toArray, List.getElem_cons_zero, List.getElem_cons_succ, List.setIfInBounds_toArray, List.set_cons_zero, List.set_cons_succ]
        refine wpAnyH_take (i := 21) (v := .bool true) rfl (by kernel_rfl) (by kernel_rfl) (by kernel_rfl) (fun _ _ _ h => h) (Or.inl ⟨by rfl, (by intro w hSw; (try dsimp only at hSw); go_simp)⟩) (by assumption) ?_
        try simp only [Act.put, List.getElem_toArray, List.getElem_cons_zero, List.getElem_cons_succ, List.setIfInBounds_toArray, List.set_cons_zero, List.set_cons_succ]
        refine wpAnyH_take (i := 22) (v := .bool true) rfl (by kernel_rfl) (by kernel_rfl) (by kernel_rfl) (fun _ _ _ h => h) (Or.inl ⟨by rfl, (by intro w hSw; (try dsimp only at hSw); go_simp)⟩) (by assumption) ?_
        try simp only [Act.put, List.getElem_toArray, List.getElem_cons_zero, List.getElem_cons_succ, List.setIfInBounds_toArray, List.set_cons_zero, List.set_cons_succ]
        refine wpAnyH_take (i := 23) (v := .bool true) rfl (by kernel_rfl) (by kernel_rfl) (by kernel_rfl) (fun _ _ _ h => h) (Or.inl ⟨by rfl, (by intro w hSw; (try dsimp only at hSw); go_simp)⟩) (by assumption) ?_
        try simp only [Act.put, List.getElem_toArray, List.getElem_cons_zero, List.getElem_cons_succ, List.setIfInBounds_toArray, List.set_cons_zero, List.set_cons_succ]
        refine wpAnyH_done (by kernel_rfl) ?_ _
        go_wp2
        go_ret
        exact ⟨rfl, by rw [HBE.out]; exact HB7.out⟩
      · skip
        try simp only [List.getElem_toArray, List.getElem_cons_zero, List.getElem_cons_succ]
        go_simp
        rw [cells_bytes]
        refine hK.out _ _ trivial (fun hHeld => ?_)
        clear hK K
        try simp only [Act.put, List.getElem_toArray, List.getElem_cons_zero, List.getElem_cons_succ, List.setIfInBounds_toArray, List.set_cons_zero, List.set_cons_succ]
        have hF3 := Whole.new v2 5 (nums (Cm.bytes x)).toArray
        have hb2 := below_alloc v2 (.cells (nums (Cm.bytes x)).toArray 5)
        generalize v2.alloc (.cells (nums (Cm.bytes x)).toArray 5) = v3 at *
        have HE3 := Lib.hid (HE2.out.below hb2 HE2.out.lt)
        have HG3 := Lib.hid (HG2.out.below hb2 HG2.out.lt)
        have HB3 : Hid (Below B w v3) := Lib.hid (HB2.out.trans (hb2.mono zB2))
        have zB3 : B ≤ v3.heap.size := Nat.le_trans zB2 hb2.size
        have neEF : E ≠ v2.heap.size := Nat.ne_of_lt HE2.out.lt
        have neGF : G ≠ v2.heap.size := Nat.ne_of_lt HG2.out.lt
        generalize v2.heap.size = F at *
        have HF3 := Lib.hid hF3
        clear hF3 hb2
        clear HE2 HG2 HB2
        refine wpAnyH_ready (rs := [4]) (by kernel_rfl) (by simp) (AllReadyH.cons rfl (fun K hK => ?_) AllReadyH.nil)
        try simp only [List.getElem_toArray, List.getElem_cons_zero, List.getElem_cons_succ]
        refine if_wanted (by rfl) ?_
        refine wp_append_txt _ (.tmp 14) (.tmp 15) 23 rfl E 5 i0 (.int .u8 0) 1 Try.underlying23 HI.out.1 HI.out.2.1 HI.out.2.2.1 HI.out.2.2.2 rfl _ 0 [] rfl (own_empty HE3.out) (· < B) a0 n0 c0 l0 rfl (H0.out.below HB3.out (fun _ _ h => h)) (by unfold maxLen; omega) (by omega) (Nat.le_of_lt HE3.out.lt) ?_
        intro u4 v4 hown hg hq
        have HO4 : Hid (v4.ownsRow E 5 1 u4 n0 (nums l0)) := Lib.hid (by rw [Nat.zero_add] at hown; exact hown)
        obtain ⟨Q, cap4, rfl, hQ⟩ := own_at HO4.out hq
        have neQF : Q ≠ F := by
          rcases hQ with rfl | rfl
          · exact neEF
          · exact Ne.symm (Nat.ne_of_lt HF3.out.lt)
        have HF4 := Lib.hid (HF3.out.grown hg (slice_ne (Ne.symm neEF)))
        have neQG : Q ≠ G := by
          rcases hQ with rfl | rfl
          · exact neEG
          · exact Ne.symm (Nat.ne_of_lt HG3.out.lt)
        have HG4 := Lib.hid (HG3.out.grown hg (slice_ne (Ne.symm neEG)))
        have HB4 : Hid (Below B w v4) := Lib.hid (HB3.out.grown hg zB3 (fun k hk => slice_row hk gE))
        have zB4 : B ≤ v4.heap.size := Nat.le_trans zB3 hg.size
        have gQ : B ≤ Q := by
          rcases hQ with rfl | rfl
          · exact gE
          · exact zB3
        clear hown hg hq hQ
        clear HF3 HG3 HB3
        clear HE3
        refine hK.out _ _ trivial (fun hHeld => ?_)
        clear hK K
        try simp only [Act.put, List.getElem_toArray, List.getElem_cons_zero, List.getElem_cons_succ, List.setIfInBounds_toArray, List.set_cons_zero, List.set_cons_succ]
        refine wpAnyH_ready (rs := [17]) (by kernel_rfl) (by simp) (AllReadyH.cons rfl (fun K hK => ?_) AllReadyH.nil)
        try simp only [List.getElem_toArray, List.getElem_cons_zero, List.getElem_cons_succ]
        refine if_wanted (by rfl) ?_
        refine wp_append_txt _ (.tmp 16) (.tmp 28) 23 rfl E 5 i0 (.int .u8 0) 1 Try.underlying23 HI.out.1 HI.out.2.1 HI.out.2.2.1 HI.out.2.2.2 rfl _ n0 (nums l0) rfl HO4.out (fun _ => True) (some ⟨F, 0, none⟩) 4 4 (Cm.bytes x) rfl (txt_whole HF4.out (byt_bytes x)) (by unfold maxLen; omega) (by omega) (Nat.le_of_lt (Nat.lt_of_le_of_lt (own_lt HO4.out).1 (own_lt HO4.out).2)) ?_
        intro u5 v5 hown hg hq
        have HT5 : Hid (∃ a c, u5 = .slice a (n0 + 4) c ∧ Txt v5 (fun _ => True) a (n0 + 4) c (l0 ++ Cm.bytes x)) := Lib.hid (by
          rw [← nums_append] at hown
          obtain ⟨a, c, e, ht⟩ := Txt.own hown (byt_append H0.out.2.2.1 (byt_bytes x))
          exact ⟨a, c, e, ht.weak fun _ _ _ => trivial⟩)
        obtain ⟨q5, cap5, rfl, hT5⟩ := HT5.out
        clear HT5
        have HT5 := Lib.hid hT5
        have HG5 := Lib.hid (HG4.out.grown hg (slice_ne (Ne.symm neQG)))
        have HB5 : Hid (Below B w v5) := Lib.hid (HB4.out.grown hg zB4 (fun k hk => slice_row hk gQ))
        have zB5 : B ≤ v5.heap.size := Nat.le_trans zB4 hg.size
        clear hown hg hq hT5
        clear HO4 HF4 HG4 HB4
        refine hK.out _ _ trivial (fun hHeld => ?_)
        clear hK K
        try simp only [Act.put, List.getElem_toArray, List.getElem_cons_zero, List.getElem_cons_succ, List.setIfInBounds_toArray, List.set_cons_zero, List.set_cons_succ]
        refine wpAnyH_ready (rs := [18]) (by kernel_rfl) (by simp) (AllReadyH.cons rfl (fun K hK => ?_) AllReadyH.nil)
        try simp only [List.getElem_toArray, List.getElem_cons_zero, List.getElem_cons_succ]
        go_simp
        go_at_call 12
        refine (sum_any HT5.out (by omega)).mono ?_
        rintro e v6 ⟨rfl, hb5⟩
        rw [HEV.out]
        have HG6 := Lib.hid (HG5.out.below hb5 HG5.out.lt)
        have HB6 : Hid (Below B w v6) := Lib.hid (HB5.out.trans (hb5.mono zB5))
        have zB6 : B ≤ v6.heap.size := Nat.le_trans zB5 hb5.size
        clear hb5
        clear HT5 HG5 HB5
        go_wp2_with fail
        refine hK.out _ _ trivial (fun hHeld => ?_)
        clear hK K
        try simp only [Act.put, List.getElem_toArray, List.getElem_cons_zero, List.getElem_cons_succ, List.setIfInBounds_toArray, List.set_cons_zero, List.set_cons_succ]
        refine wpAnyH_ready (rs := [20]) (by kernel_rfl) (by simp) (AllReadyH.cons rfl (fun K hK => ?_) AllReadyH.nil)
        try simp only [List.getElem_toArray, List.getElem_cons_zero, List.getElem_cons_succ]
        go_simp
        go_at_call 12
        refine (sum_any (txt_whole HG6.out (byt_zeros 4)) (by simp [zeros])).mono ?_
        rintro e v7 ⟨rfl, hb6⟩
        have HB7 : Hid (Below B w v7) := Lib.hid (HB6.out.trans (hb6.mono zB6))
        have zB7 : B ≤ v7.heap.size := Nat.le_trans zB6 hb6.size
        clear hb6
        clear HG6 HB6
        go_wp2_with fail
        refine hK.out _ _ trivial (fun hHeld => ?_)
        clear hK K
        try simp only [Act.put, List.getElem_toArray, List.getElem_cons_zero, List.getElem_cons_succ, List.setIfInBounds_toArray, List.set_cons_zero, List.set_cons_succ]
        refine wpAnyH_take (i := 21) (v := .bool true) rfl (by kernel_rfl) (by kernel_rfl) (by kernel_rfl) (fun _ _ _ h => h) (Or.inl ⟨by rfl, (by intro w hSw; (try dsimp only at hSw); go_simp)⟩) (by assumption) ?_
        try simp only [Act.put, List.getElem_toArray, List.getElem_cons_zero, List.getElem_cons_succ, List.setIfInBounds_toArray, List.set_cons_zero, List.set_cons_succ]
        refine wpAnyH_take (i := 22) (v := .bool true) rfl (by kernel_rfl) (by kernel_rfl) (by kernel_rfl) (fun _ _ _ h => h) (Or.inl ⟨by rfl, (by intro w hSw; (try dsimp only at hSw); go_simp)⟩) (by assumption) ?_
        try simp only [Act.put, List.getElem_toArray, List.getElem_cons_zero, List.getElem_cons_succ, List.setIfInBounds_toArray, List.set_cons_zero, List.set_cons_succ]
        refine wpAnyH_take (i := 23) (v := .bool true) rfl (by kernel_rfl) (by kernel_rfl) (by kernel_rfl) (fun _ _ _ h => h) (Or.inl ⟨by rfl, (by intro w hSw; (try dsimp only at hSw); go_simp)⟩) (by assumption) ?_
        try simp only [Act.put, List.getElem_toArray, List.getElem_cons_zero, List.getElem_cons_succ, List.setIfInBounds_toArray, List.set_cons_zero, List.set_cons_succ]
        refine wpAnyH_done (by kernel_rfl) ?_ _
        go_wp2
        go_ret
        exact ⟨rfl, by rw [HBE.out]; exact HB7.out⟩
  · skip
    try simp only [List.getElem_toArray, List.getElem_cons_zero, List.getElem_cons_succ]
    go_simp
    rw [cells_bytes]
    refine hK.out _ _ trivial (fun hHeld => ?_)
    clear hK K
    try simp only [Act.put, List.getElem_toArray, List.getElem_cons_zero, List.getElem_cons_succ, List.setIfInBounds_toArray, List.set_cons_zero, List.set_cons_succ]
    have hF1 := Whole.new v0 5 (nums (Cm.bytes x)).toArray
    have hb0 := below_alloc v0 (.cells (nums (Cm.bytes x)).toArray 5)
    generalize v0.alloc (.cells (nums (Cm.bytes x)).toArray 5) = v1 at *
    have HB1 : Hid (Below B w v1) := Lib.hid (HB0.out.trans (hb0.mono zB0))
    have zB1 : B ≤ v1.heap.size := Nat.le_trans zB0 hb0.size
    generalize v0.heap.size = F at *
    have HF1 := Lib.hid hF1
    clear hF1 hb0
    clear HB0
    refine wpAnyH_ready (rs := [2, 19]) (by kernel_rfl) (by simp) (AllReadyH.cons rfl (fun K hK => ?_) (AllReadyH.cons rfl (fun K hK => ?_) AllReadyH.nil))
    · skip
      try simp only [List.getElem_toArray, List.getElem_cons_zero, List.getElem_cons_succ]
      go_simp
      refine hK.out _ _ trivial (fun hHeld => ?_)
      clear hK K
      try simp only [Act.put, List.getElem_toArray, List.getElem_cons_zero, List.getElem_cons_succ, List.setIfInBounds_toArray, List.set_cons_zero, List.set_cons_succ]
      have hE2 := Whole.new v1 5 #[]
      have hb1 := below_alloc v1 (.cells #[] 5)
      generalize v1.alloc (.cells #[] 5) = v2 at *
      have HF2 := Lib.hid (HF1.out.below hb1 HF1.out.lt)
      have HB2 : Hid (Below B w v2) := Lib.hid (HB1.out.trans (hb1.mono zB1))
      have zB2 : B ≤ v2.heap.size := Nat.le_trans zB1 hb1.size
      have neFE : F ≠ v1.heap.size := Nat.ne_of_lt HF1.out.lt
      generalize v1.heap.size = E at *
      have gE : B ≤ E := zB1
      have HE2 := Lib.hid hE2
      clear hE2 hb1
      clear HF1 HB1
      refine wpAnyH_ready (rs := [4, 19]) (by kernel_rfl) (by simp) (AllReadyH.cons rfl (fun K hK => ?_) (AllReadyH.cons rfl (fun K hK => ?_) AllReadyH.nil))
      · skip
        try simp only [List.getElem_toArray, List.getElem_cons_zero, List.getElem_cons_succ]
        refine if_wanted (by rfl) ?_
        refine wp_append_txt _ (.tmp 14) (.tmp 15) 23 rfl E 5 i0 (.int .u8 0) 1 Try.underlying23 HI.out.1 HI.out.2.1 HI.out.2.2.1 HI.out.2.2.2 rfl _ 0 [] rfl (own_empty HE2.out) (· < B) a0 n0 c0 l0 rfl (H0.out.below HB2.out (fun _ _ h => h)) (by unfold maxLen; omega) (by omega) (Nat.le_of_lt HE2.out.lt) ?_
        intro u3 v3 hown hg hq
        have HO3 : Hid (v3.ownsRow E 5 1 u3 n0 (nums l0)) := Lib.hid (by rw [Nat.zero_add] at hown; exact hown)
        obtain ⟨Q, cap4, rfl, hQ⟩ := own_at HO3.out hq
        have neQF : Q ≠ F := by
          rcases hQ with rfl | rfl
          · exact (Ne.symm neFE)
          · exact Ne.symm (Nat.ne_of_lt HF2.out.lt)
        have HF3 := Lib.hid (HF2.out.grown hg (slice_ne neFE))
        have HB3 : Hid (Below B w v3) := Lib.hid (HB2.out.grown hg zB2 (fun k hk => slice_row hk gE))
        have zB3 : B ≤ v3.heap.size := Nat.le_trans zB2 hg.size
        have gQ : B ≤ Q := by
          rcases hQ with rfl | rfl
          · exact gE
          · exact zB2
        clear hown hg hq hQ
        clear HF2 HB2
        clear HE2
        refine hK.out _ _ trivial (fun hHeld => ?_)
        clear hK K
        try simp only [Act.put, List.getElem_toArray, List.getElem_cons_zero, List.getElem_cons_succ, List.setIfInBounds_toArray, List.set_cons_zero, List.set_cons_succ]
        refine wpAnyH_ready (rs := [17, 19]) (by kernel_rfl) (by simp) (AllReadyH.cons rfl (fun K hK => ?_) (AllReadyH.cons rfl (fun K hK => ?_) AllReadyH.nil))
        · skip
          try simp only [List.getElem_toArray, List.getElem_cons_zero, List.getElem_cons_succ]
          refine if_wanted (by rfl) ?_
          refine wp_append_txt _ (.tmp 16) (.tmp 28) 23 rfl E 5 i0 (.int .u8 0) 1 Try.underlying23 HI.out.1 HI.out.2.1 HI.out.2.2.1 HI.out.2.2.2 rfl _ n0 (nums l0) rfl HO3.out (fun _ => True) (some ⟨F, 0, none⟩) 4 4 (Cm.bytes x) rfl (txt_whole HF3.out (byt_bytes x)) (by unfold maxLen; omega) (by omega) (Nat.le_of_lt (Nat.lt_of_le_of_lt (own_lt HO3.out).1 (own_lt HO3.out).2)) ?_
          intro u4 v4 hown hg hq
          have HT4 : Hid (∃ a c, u4 = .slice a (n0 + 4) c ∧ Txt v4 (fun _ => True) a (n0 + 4) c (l0 ++ Cm.bytes x)) := Lib.hid (by
            rw [← nums_append] at hown
            obtain ⟨a, c, e, ht⟩ := Txt.own hown (byt_append H0.out.2.2.1 (byt_bytes x))
            exact ⟨a, c, e, ht.weak fun _ _ _ => trivial⟩)
          obtain ⟨q5, cap5, rfl, hT4⟩ := HT4.out
          clear HT4
          have HT4 := Lib.hid hT4
          have HB4 : Hid (Below B w v4) := Lib.hid (HB3.out.grown hg zB3 (fun k hk => slice_row hk gQ))
          have zB4 : B ≤ v4.heap.size := Nat.le_trans zB3 hg.size
          clear hown hg hq hT4
          clear HO3 HF3 HB3
          refine hK.out _ _ trivial (fun hHeld => ?_)
          clear hK K
          try simp only [Act.put, List.getElem_toArray, List.getElem_cons_zero, List.getElem_cons_succ, List.setIfInBounds_toArray, List.set_cons_zero, List.set_cons_succ]
          refine wpAnyH_ready (rs := [18, 19]) (by kernel_rfl) (by simp) (AllReadyH.cons rfl (fun K hK => ?_) (AllReadyH.cons rfl (fun K hK => ?_) AllReadyH.nil))
          · skip
            try simp only [List.getElem_toArray, List.getElem_cons_zero, List.getElem_cons_succ]
            go_simp
            go_at_call 12
            refine (sum_any HT4.out (by omega)).mono ?_
            rintro e v5 ⟨rfl, hb4⟩
            rw [HEV.out]
            have HB5 : Hid (Below B w v5) := Lib.hid (HB4.out.trans (hb4.mono zB4))
            have zB5 : B ≤ v5.heap.size := Nat.le_trans zB4 hb4.size
            clear hb4
            clear HT4 HB4
            go_wp2_with fail
            refine hK.out _ _ trivial (fun hHeld => ?_)
            clear hK K
            try simp only [Act.put, List.getElem_toArray, List.getElem_cons_zero, List.getElem_cons_succ, List.setIfInBounds_toArray, List.set_cons_zero, List.set_cons_succ]
            refine wpAnyH_ready (rs := [19]) (by kernel_rfl) (by simp) (AllReadyH.cons rfl (fun K hK => ?_) AllReadyH.nil)
            try simp only [List.getElem_toArray, List.getElem_cons_zero, List.getElem_cons_succ]
            go_simp
            refine hK.out _ _ trivial (fun hHeld => ?_)
            clear hK K
            try simp only [Act.put, List.getElem_toArray, List.getElem_cons_zero, List.getElem_cons_succ, List.setIfInBounds_toArray, List.set_cons_zero, List.set_cons_succ]
            have hG6 := Whole.new v5 5 (nums (zeros 4)).toArray
            have hb5 := below_alloc v5 (.cells (nums (zeros 4)).toArray 5)
            generalize v5.alloc (.cells (nums (zeros 4)).toArray 5) = v6 at *
            have HB6 : Hid (Below B w v6) := Lib.hid (HB5.out.trans (hb5.mono zB5))
            have zB6 : B ≤ v6.heap.size := Nat.le_trans zB5 hb5.size
            generalize v5.heap.size = G at *
            have HG6 := Lib.hid hG6
            clear hG6 hb5
            clear HB5
            refine wpAnyH_ready (rs := [20]) (by kernel_rfl) (by simp) (AllReadyH.cons rfl (fun K hK => ?_) AllReadyH.nil)
            try simp only [List.getElem_toArray, List.getElem_cons_zero, List.getElem_cons_succ]
            go_simp
            go_at_call 12
            refine (sum_any (txt_whole HG6.out (byt_zeros 4)) (by simp [zeros])).mono ?_
            rintro e v7 ⟨rfl, hb6⟩
            have HB7 : Hid (Below B w v7) := Lib.hid (HB6.out.trans (hb6.mono zB6))
            have zB7 : B ≤ v7.heap.size := Nat.le_trans zB6 hb6.size
            clear hb6
            clear HG6 HB6
            go_wp2_with fail
            refine hK.out _ _ trivial (fun hHeld => ?_)
            clear hK K
            try simp only [Act.put, List.getElem_toArray, List.getElem_cons_zero, List.getElem_cons_succ, List.setIfInBounds_toArray, List.set_cons_zero, List.set_cons_succ]
            refine wpAnyH_take (i := 21) (v := .bool true) rfl (by kernel_rfl) (by kernel_rfl) (by kernel_rfl) (fun _ _ _ h => h) (Or.inl ⟨by rfl, (by intro w hSw; (try dsimp only at hSw); go_simp)⟩) (by assumption) ?_
            try simp only [Act.put, List.getElem_toArray, List.getElem_cons_zero, List.getElem_cons_succ, List.setIfInBounds_toArray, List.set_cons_zero, List.set_cons_succ]
            refine wpAnyH_take (i := 22) (v := .bool true) rfl (by kernel_rfl) (by kernel_rfl) (by kernel_rfl) (fun _ _ _ h => h) (Or.inl ⟨by rfl, (by intro w hSw; (try dsimp only at hSw); go_simp)⟩) (by assumption) ?_
            try simp only [Act.put, List.getElem_toArray, List.getElem_cons_zero, List.getElem_cons_succ, List.setIfInBounds_toArray, List.set_cons_zero, List.set_cons_succ]
            refine wpAnyH_take (i := 23) (v := .bool true) rfl (by kernel_rfl) (by kernel_rfl) (by kernel_rfl) (fun _ _ _ h => h) (Or.inl ⟨by rfl, (by intro w hSw; (try dsimp only at hSw); go_simp)⟩) (by assumption) ?_
            try simp only [Act.put, List.getElem_toArray, List.getElem_cons_zero, List.getElem_cons_succ, List.setIfInBounds_toArray, List.set_cons_zero, List.set_cons_succ]
            refine wpAnyH_done (by kernel_rfl) ?_ _
            go_wp2
            go_ret
            exact ⟨rfl, by rw [HBE.out]; exact HB7.out⟩
          · skip
            try simp only [List.getElem_toArray, List.getElem_cons_zero, List.getElem_cons_succ]
            go_simp
            refine hK.out _ _ trivial (fun hHeld => ?_)
            clear hK K
            try simp only [Act.put, List.getElem_toArray, List.getElem_cons_zero, List.getElem_cons_succ, List.setIfInBounds_toArray, List.set_cons_zero, List.set_cons_succ]
            have hG5 := Whole.new v4 5 (nums (zeros 4)).toArray
            have hb4 := below_alloc v4 (.cells (nums (zeros 4)).toArray 5)
            generalize v4.alloc (.cells (nums (zeros 4)).toArray 5) = v5 at *
            have HT5 := Lib.hid (HT4.out.below hb4 (fun _ h _ => h))
            have HB5 : Hid (Below B w v5) := Lib.hid (HB4.out.trans (hb4.mono zB4))
            have zB5 : B ≤ v5.heap.size := Nat.le_trans zB4 hb4.size
            generalize v4.heap.size = G at *
            have HG5 := Lib.hid hG5
            clear hG5 hb4
            clear HT4 HB4
            refine wpAnyH_ready (rs := [18]) (by kernel_rfl) (by simp) (AllReadyH.cons rfl (fun K hK => ?_) AllReadyH.nil)
            try simp only [List.getElem_toArray, List.getElem_cons_zero, List.getElem_cons_succ]
            go_simp
            go_at_call 12
            refine (sum_any HT5.out (by omega)).mono ?_
            rintro e v6 ⟨rfl, hb5⟩
            rw [HEV.out]
            have HG6 := Lib.hid (HG5.out.below hb5 HG5.out.lt)
            have HB6 : Hid (Below B w v6) := Lib.hid (HB5.out.trans (hb5.mono zB5))
            have zB6 : B ≤ v6.heap.size := Nat.le_trans zB5 hb5.size
            clear hb5
            clear HT5 HG5 HB5
            go_wp2_with fail
            refine hK.out _ _ trivial (fun hHeld => ?_)
            clear hK K
            try simp only [Act.put, List.getElem_toArray, List.getElem_cons_zero, List.getElem_cons_succ, List.setIfInBounds_toArray, List.set_cons_zero, List.set_cons_succ]
            refine wpAnyH_ready (rs := [20]) (by kernel_rfl) (by simp) (AllReadyH.cons rfl (fun K hK => ?_) AllReadyH.nil)
            try simp only [List.getElem_toArray, List.getElem_cons_zero, List.getElem_cons_succ]
            go_simp
            go_at_call 12
            refine (sum_any (txt_whole HG6.out (byt_zeros 4)) (by simp [zeros])).mono ?_
            rintro e v7 ⟨rfl, hb6⟩
            have HB7 : Hid (Below B w v7) := Lib.hid (HB6.out.trans (hb6.mono zB6))
            have zB7 : B ≤ v7.heap.size := Nat.le_trans zB6 hb6.size
            clear hb6
            clear HG6 HB6
            go_wp2_with fail
            refine hK.out _ _ trivial (fun hHeld => ?_)
            clear hK K
            try simp only [Act.put, List.getElem_toArray, List.getElem_cons_zero, List.getElem_cons_succ, List.setIfInBounds_toArray, List.set_cons_zero, List.set_cons_succ]
            refine wpAnyH_take (i := 21) (v := .bool true) rfl (by kernel_rfl) (by kernel_rfl) (by kernel_rfl) (fun _ _ _ h => h) (Or.inl ⟨by rfl, (by intro w hSw; (try dsimp only at hSw); go_simp)⟩) (by assumption) ?_
            try simp only [Act.put, List.getElem_toArray, List.getElem_cons_zero, List.getElem_cons_succ, List.setIfInBounds_toArray, List.set_cons_zero, List.set_cons_succ]
            refine wpAnyH_take (i := 22) (v := .bool true) rfl (by kernel_rfl) (by kernel_rfl) (by kernel_rfl) (fun _ _ _ h => h) (Or.inl ⟨by rfl, (by intro w hSw; (try dsimp only at hSw); go_simp)⟩) (by assumption) ?_
            try simp only [Act.put, List.getElem_toArray, List.getElem_cons_zero, List.getElem_cons_succ, List.setIfInBounds_toArray, List.set_cons_zero, List.set_cons_succ]
            refine wpAnyH_take (i := 23) (v := .bool true) rfl (by kernel_rfl) (by kernel_rfl) (by kernel_rfl) (fun _ _ _ h => h) (Or.inl ⟨by rfl, (by intro w hSw; (try dsimp only at hSw); go_simp)⟩) (by assumption) ?_
            try simp only [Act.put, List.getElem_toArray, List.getElem_cons_zero, List.getElem_cons_succ, List.setIfInBounds_toArray, List.set_cons_zero, List.set_cons_succ]
            refine wpAnyH_done (by kernel_rfl) ?_ _
            go_wp2
            go_ret
            exact ⟨rfl, by rw [HBE.out]; exact HB7.out⟩
        · skip
          try simp only [List.getElem_toArray, List.getElem_cons_zero, List.getElem_cons_succ]
          go_simp
          refine hK.out _ _ trivial (fun hHeld => ?_)
          clear hK K
          try simp only [Act.put, List.getElem_toArray, List.getElem_cons_zero, List.getElem_cons_succ, List.setIfInBounds_toArray, List.set_cons_zero, List.set_cons_succ]
          have hG4 := Whole.new v3 5 (nums (zeros 4)).toArray
          have hb3 := below_alloc v3 (.cells (nums (zeros 4)).toArray 5)
          generalize v3.alloc (.cells (nums (zeros 4)).toArray 5) = v4 at *
          have HO4 := Lib.hid (own_keep HO3.out hb3)
          have HF4 := Lib.hid (HF3.out.below hb3 HF3.out.lt)
          have HB4 : Hid (Below B w v4) := Lib.hid (HB3.out.trans (hb3.mono zB3))
          have zB4 : B ≤ v4.heap.size := Nat.le_trans zB3 hb3.size
          have neQG : Q ≠ v3.heap.size := Nat.ne_of_lt (own_lt HO3.out).2
          have neFG : F ≠ v3.heap.size := Nat.ne_of_lt HF3.out.lt
          generalize v3.heap.size = G at *
          have HG4 := Lib.hid hG4
          clear hG4 hb3
          clear HO3 HF3 HB3
          refine wpAnyH_ready (rs := [17]) (by kernel_rfl) (by simp) (AllReadyH.cons rfl (fun K hK => ?_) AllReadyH.nil)
          try simp only [List.getElem_toArray, List.getElem_cons_zero, List.getElem_cons_succ]
          refine if_wanted (by rfl) ?_
          refine wp_append_txt _ (.tmp 16) (.tmp 28) 23 rfl E 5 i0 (.int .u8 0) 1 Try.underlying23 HI.out.1 HI.out.2.1 HI.out.2.2.1 HI.out.2.2.2 rfl _ n0 (nums l0) rfl HO4.out (fun _ => True) (some ⟨F, 0, none⟩) 4 4 (Cm.bytes x) rfl (txt_whole HF4.out (byt_bytes x)) (by unfold maxLen; omega) (by omega) (Nat.le_of_lt (Nat.lt_of_le_of_lt (own_lt HO4.out).1 (own_lt HO4.out).2)) ?_
          intro u5 v5 hown hg hq
          have HT5 : Hid (∃ a c, u5 = .slice a (n0 + 4) c ∧ Txt v5 (fun _ => True) a (n0 + 4) c (l0 ++ Cm.bytes x)) := Lib.hid (by
            rw [← nums_append] at hown
            obtain ⟨a, c, e, ht⟩ := Txt.own hown (byt_append H0.out.2.2.1 (byt_bytes x))
            exact ⟨a, c, e, ht.weak fun _ _ _ => trivial⟩)
          obtain ⟨q5, cap5, rfl, hT5⟩ := HT5.out
          clear HT5
          have HT5 := Lib.hid hT5
          have HG5 := Lib.hid (HG4.out.grown hg (slice_ne (Ne.symm neQG)))
          have HB5 : Hid (Below B w v5) := Lib.hid (HB4.out.grown hg zB4 (fun k hk => slice_row hk gQ))
          have zB5 : B ≤ v5.heap.size := Nat.le_trans zB4 hg.size
          clear hown hg hq hT5
          clear HO4 HF4 HG4 HB4
          refine hK.out _ _ trivial (fun hHeld => ?_)
          clear hK K
          try simp only [Act.put, List.getElem_toArray, List.getElem_cons_zero, List.getElem_cons_succ, List.setIfInBounds_toArray, List.set_cons_zero, List.set_cons_succ]
          refine wpAnyH_ready (rs := [18]) (by kernel_rfl) (by simp) (AllReadyH.cons rfl (fun K hK => ?_) AllReadyH.nil)
          try simp only [List.getElem_toArray, List.getElem_cons_zero, List.getElem_cons_succ]
          go_simp
          go_at_call 12
          refine (sum_any HT5.out (by omega)).mono ?_
          rintro e v6 ⟨rfl, hb5⟩
          rw [HEV.out]
          have HG6 := Lib.hid (HG5.out.below hb5 HG5.out.lt)
          have HB6 : Hid (Below B w v6) := Lib.hid (HB5.out.trans (hb5.mono zB5))
          have zB6 : B ≤ v6.heap.size := Nat.le_trans zB5 hb5.size
          clear hb5
          clear HT5 HG5 HB5
          go_wp2_with fail
          refine hK.out _ _ trivial (fun hHeld => ?_)
          clear hK K
          try simp only [Act.put, List.getElem_toArray, List.getElem_cons_zero, List.getElem_cons_succ, List.setIfInBounds_toArray, List.set_cons_zero, List.set_cons_succ]
          refine wpAnyH_ready (rs := [20]) (by kernel_rfl) (by simp) (AllReadyH.cons rfl (fun K hK => ?_) AllReadyH.nil)
          try simp only [List.getElem_toArray, List.getElem_cons_zero, List.getElem_cons_succ]
          go_simp
          go_at_call 12
          refine (sum_any (txt_whole HG6.out (byt_zeros 4)) (by simp [zeros])).mono ?_
          rintro e v7 ⟨rfl, hb6⟩
          have HB7 : Hid (Below B w v7) := Lib.hid (HB6.out.trans (hb6.mono zB6))
          have zB7 : B ≤ v7.heap.size := Nat.le_trans zB6 hb6.size
          clear hb6
          clear HG6 HB6
          go_wp2_with fail
          refine hK.out _ _ trivial (fun hHeld => ?_)
          clear hK K
          try simp only [Act.put, List.getElem_toArray, List.getElem_cons_zero, List.getElem_cons_succ, List.setIfInBounds_toArray, List.set_cons_zero, List.set_cons_succ]
          refine wpAnyH_take (i := 21) (v := .bool true) rfl (by kernel_rfl) (by kernel_rfl) (by kernel_rfl) (fun _ _ _ h => h) (Or.inl ⟨by rfl, (by intro w hSw; (try dsimp only at hSw); go_simp)⟩) (by assumption) ?_
          try simp only [Act.put, List.getElem_toArray, List.getElem_cons_zero, List.getElem_cons_succ, List.setIfInBounds_toArray, List.set_cons_zero, List.set_cons_succ]
          refine wpAnyH_take (i := 22) (v := .bool true) rfl (by kernel_rfl) (by kernel_rfl) (by kernel_rfl) (fun _ _ _ h => h) (Or.inl ⟨by rfl, (by intro w hSw; (try dsimp only at hSw); go_simp)⟩) (by assumption) ?_
          try simp only [Act.put, List.getElem_toArray, List.getElem_cons_zero, List.getElem_cons_succ, List.setIfInBounds_toArray, List.set_cons_zero, List.set_cons_succ]
          refine wpAnyH_take (i := 23) (v := .bool true) rfl (by kernel_rfl) (by kernel_rfl) (by kernel_rfl) (fun _ _ _ h => h) (Or.inl ⟨by rfl, (by intro w hSw; (try dsimp only at hSw); go_simp)⟩) (by assumption) ?_
          try simp only [Act.put, List.getElem_toArray, List.getElem_cons_zero, List.getElem_cons_succ, List.setIfInBounds_toArray, List.set_cons_zero, List.set_cons_succ]
          refine wpAnyH_done (by kernel_rfl) ?_ _
          go_wp2
          go_ret
          exact ⟨rfl, by rw [HBE.out]; exact HB7.out⟩
      · skip
        try simp only [List.getElem_toArray, List.getElem_cons_zero, List.getElem_cons_succ]
        go_simp
        refine hK.out _ _ trivial (fun hHeld => ?_)
        clear hK K
        try simp only [Act.put, List.getElem_toArray, List.getElem_cons_zero, List.getElem_cons_succ, List.setIfInBounds_toArray, List.set_cons_zero, List.set_cons_succ]
        have hG3 := Whole.new v2 5 (nums (zeros 4)).toArray
        have hb2 := below_alloc v2 (.cells (nums (zeros 4)).toArray 5)
        generalize v2.alloc (.cells (nums (zeros 4)).toArray 5) = v3 at *
        have HE3 := Lib.hid (HE2.out.below hb2 HE2.out.lt)
        have HF3 := Lib.hid (HF2.out.below hb2 HF2.out.lt)
        have HB3 : Hid (Below B w v3) := Lib.hid (HB2.out.trans (hb2.mono zB2))
        have zB3 : B ≤ v3.heap.size := Nat.le_trans zB2 hb2.size
        have neEG : E ≠ v2.heap.size := Nat.ne_of_lt HE2.out.lt
        have neFG : F ≠ v2.heap.size := Nat.ne_of_lt HF2.out.lt
        generalize v2.heap.size = G at *
        have HG3 := Lib.hid hG3
        clear hG3 hb2
        clear HE2 HF2 HB2
        refine wpAnyH_ready (rs := [4]) (by kernel_rfl) (by simp) (AllReadyH.cons rfl (fun K hK => ?_) AllReadyH.nil)
        try simp only [List.getElem_toArray, List.getElem_cons_zero, List.getElem_cons_succ]
        refine if_wanted (by rfl) ?_
        refine wp_append_txt _ (.tmp 14) (.tmp 15) 23 rfl E 5 i0 (.int .u8 0) 1 Try.underlying23 HI.out.1 HI.out.2.1 HI.out.2.2.1 HI.out.2.2.2 rfl _ 0 [] rfl (own_empty HE3.out) (· < B) a0 n0 c0 l0 rfl (H0.out.below HB3.out (fun _ _ h => h)) (by unfold maxLen; omega) (by omega) (Nat.le_of_lt HE3.out.lt) ?_
        intro u4 v4 hown hg hq
        have HO4 : Hid (v4.ownsRow E 5 1 u4 n0 (nums l0)) := Lib.hid (by rw [Nat.zero_add] at hown; exact hown)
        obtain ⟨Q, cap4, rfl, hQ⟩ := own_at HO4.out hq
        have neQF : Q ≠ F := by
          rcases hQ with rfl | rfl
          · exact (Ne.symm neFE)
          · exact Ne.symm (Nat.ne_of_lt HF3.out.lt)
        have HF4 := Lib.hid (HF3.out.grown hg (slice_ne neFE))
        have neQG : Q ≠ G := by
          rcases hQ with rfl | rfl
          · exact neEG
          · exact Ne.symm (Nat.ne_of_lt HG3.out.lt)
        have HG4 := Lib.hid (HG3.out.grown hg (slice_ne (Ne.symm neEG)))
        have HB4 : Hid (Below B w v4) := Lib.hid (HB3.out.grown hg zB3 (fun k hk => slice_row hk gE))
        have zB4 : B ≤ v4.heap.size := Nat.le_trans zB3 hg.size
        have gQ : B ≤ Q := by
          rcases hQ with rfl | rfl
          · exact gE
          · exact zB3
        clear hown hg hq hQ
        clear HF3 HG3 HB3
        clear HE3
        refine hK.out _ _ trivial (fun hHeld => ?_)
        clear hK K
        try simp only [Act.put, List.getElem_toArray, List.getElem_cons_zero, List.getElem_cons_succ, List.setIfInBounds_toArray, List.set_cons_zero, List.set_cons_succ]
        refine wpAnyH_ready (rs := [17]) (by kernel_rfl) (by simp) (AllReadyH.cons rfl (fun K hK => ?_) AllReadyH.nil)
        try simp only [List.getElem_toArray, List.getElem_cons_zero, List.getElem_cons_succ]
        refine if_wanted (by rfl) ?_
        refine wp_append_txt _ (.tmp 16) (.tmp 28) 23 rfl E 5 i0 (.int .u8 0) 1 Try.underlying23 HI.out.1 HI.out.2.1 HI.out.2.2.1 HI.out.2.2.2 rfl _ n0 (nums l0) rfl HO4.out (fun _ => True) (some ⟨F, 0, none⟩) 4 4 (Cm.bytes x) rfl (txt_whole HF4.out (byt_bytes x)) (by unfold maxLen; omega) (by omega) (Nat.le_of_lt (Nat.lt_of_le_of_lt (own_lt HO4.out).1 (own_lt HO4.out).2)) ?_
        intro u5 v5 hown hg hq
        have HT5 : Hid (∃ a c, u5 = .slice a (n0 + 4) c ∧ Txt v5 (fun _ => True) a (n0 + 4) c (l0 ++ Cm.bytes x)) := Lib.hid (by
          rw [← nums_append] at hown
          obtain ⟨a, c, e, ht⟩ := Txt.own hown (byt_append H0.out.2.2.1 (byt_bytes x))
          exact ⟨a, c, e, ht.weak fun _ _ _ => trivial⟩)
        obtain ⟨q5, cap5, rfl, hT5⟩ := HT5.out
        clear HT5
        have HT5 := Lib.hid hT5
        have HG5 := Lib.hid (HG4.out.grown hg (slice_ne (Ne.symm neQG)))
        have HB5 : Hid (Below B w v5) := Lib.hid (HB4.out.grown hg zB4 (fun k hk => slice_row hk gQ))
        have zB5 : B ≤ v5.heap.size := Nat.le_trans zB4 hg.size
        clear hown hg hq hT5
        clear HO4 HF4 HG4 HB4
        refine hK.out _ _ trivial (fun hHeld => ?_)
        clear hK K
        try simp only [Act.put, List.getElem_toArray, List.getElem_cons_zero, List.getElem_cons_succ, List.setIfInBounds_toArray, List.set_cons_zero, List.set_cons_succ]
        refine wpAnyH_ready (rs := [18]) (by kernel_rfl) (by simp) (AllReadyH.cons rfl (fun K hK => ?_) AllReadyH.nil)
        try simp only [List.getElem_toArray, List.getElem_cons_zero, List.getElem_cons_succ]
        go_simp
        go_at_call 12
        refine (sum_any HT5.out (by omega)).mono ?_
        rintro e v6 ⟨rfl, hb5⟩
        rw [HEV.out]
        have HG6 := Lib.hid (HG5.out.below hb5 HG5.out.lt)
        have HB6 : Hid (Below B w v6) := Lib.hid (HB5.out.trans (hb5.mono zB5))
        have zB6 : B ≤ v6.heap.size := Nat.le_trans zB5 hb5.size
        clear hb5
        clear HT5 HG5 HB5
        go_wp2_with fail
        refine hK.out _ _ trivial (fun hHeld => ?_)
        clear hK K
        try simp only [Act.put, List.getElem_toArray, List.getElem_cons_zero, List.getElem_cons_succ, List.setIfInBounds_toArray, List.set_cons_zero, List.set_cons_succ]
        refine wpAnyH_ready (rs := [20]) (by kernel_rfl) (by simp) (AllReadyH.cons rfl (fun K hK => ?_) AllReadyH.nil)
        try simp only [List.getElem_toArray, List.getElem_cons_zero, List.getElem_cons_succ]
        go_simp
        go_at_call 12
        refine (sum_any (txt_whole HG6.out (byt_zeros 4)) (by simp [zeros])).mono ?_
        rintro e v7 ⟨rfl, hb6⟩
        have HB7 : Hid (Below B w v7) := Lib.hid (HB6.out.trans (hb6.mono zB6))
        have zB7 : B ≤ v7.heap.size := Nat.le_trans zB6 hb6.size
        clear hb6
        clear HG6 HB6
        go_wp2_with fail
        refine hK.out _ _ trivial (fun hHeld => ?_)
        clear hK K
        try simp only [Act.put, List.getElem_toArray, List.getElem_cons_zero, List.getElem_cons_succ, List.setIfInBounds_toArray, List.set_cons_zero, List.set_cons_succ]
        refine wpAnyH_take (i := 21) (v := .bool true) rfl (by kernel_rfl) (by kernel_rfl) (by kernel_rfl) (fun _ _ _ h => h) (Or.inl ⟨by rfl, (by intro w hSw; (try dsimp only at hSw); go_simp)⟩) (by assumption) ?_
        try simp only [Act.put, List.getElem_toArray, List.getElem_cons_zero, List.getElem_cons_succ, List.setIfInBounds_toArray, List.set_cons_zero, List.set_cons_succ]
        refine wpAnyH_take (i := 22) (v := .bool true) rfl (by kernel_rfl) (by kernel_rfl) (by kernel_rfl) (fun _ _ _ h => h) (Or.inl ⟨by rfl, (by intro w hSw; (try dsimp only at hSw); go_simp)⟩) (by assumption) ?_
        try simp only [Act.put, List.getElem_toArray, List.getElem_cons_zero, List.getElem_cons_succ, List.setIfInBounds_toArray, List.set_cons_zero, List.set_cons_succ]
        refine wpAnyH_take (i := 23) (v := .bool true) rfl (by kernel_rfl) (by kernel_rfl) (by kernel_rfl) (fun _ _ _ h => h) (Or.inl ⟨by rfl, (by intro w hSw; (try dsimp only at hSw); go_simp)⟩) (by assumption) ?_
        try simp only [Act.put, List.getElem_toArray, List.getElem_cons_zero, List.getElem_cons_succ, List.setIfInBounds_toArray, List.set_cons_zero, List.set_cons_succ]
        refine wpAnyH_done (by kernel_rfl) ?_ _
        go_wp2
        go_ret
        exact ⟨rfl, by rw [HBE.out]; exact HB7.out⟩
    · skip
      try simp only [List.getElem_toArray, List.getElem_cons_zero, List.getElem_cons_succ]
      go_simp
      refine hK.out _ _ trivial (fun hHeld => ?_)
      clear hK K
      try simp only [Act.put, List.getElem_toArray, List.getElem_cons_zero, List.getElem_cons_succ, List.setIfInBounds_toArray, List.set_cons_zero, List.set_cons_succ]
      have hG2 := Whole.new v1 5 (nums (zeros 4)).toArray
      have hb1 := below_alloc v1 (.cells (nums (zeros 4)).toArray 5)
      generalize v1.alloc (.cells (nums (zeros 4)).toArray 5) = v2 at *
      have HF2 := Lib.hid (HF1.out.below hb1 HF1.out.lt)
      have HB2 : Hid (Below B w v2) := Lib.hid (HB1.out.trans (hb1.mono zB1))
      have zB2 : B ≤ v2.heap.size := Nat.le_trans zB1 hb1.size
      have neFG : F ≠ v1.heap.size := Nat.ne_of_lt HF1.out.lt
      generalize v1.heap.size = G at *
      have HG2 := Lib.hid hG2
      clear hG2 hb1
      clear HF1 HB1
      refine wpAnyH_ready (rs := [2]) (by kernel_rfl) (by simp) (AllReadyH.cons rfl (fun K hK => ?_) AllReadyH.nil)
      try simp only [List.getElem_toArray, List.getElem_cons_zero, List.getElem_cons_succ]
      go_simp
      refine hK.out _ _ trivial (fun hHeld => ?_)
      clear hK K
      try simp only [Act.put, List.getElem_toArray, List.getElem_cons_zero, List.getElem_cons_succ, List.setIfInBounds_toArray, List.set_cons_zero, List.set_cons_succ]
      have hE3 := Whole.new v2 5 #[]
      have hb2 := below_alloc v2 (.cells #[] 5)
      generalize v2.alloc (.cells #[] 5) = v3 at *
      have HF3 := Lib.hid (HF2.out.below hb2 HF2.out.lt)
      have HG3 := Lib.hid (HG2.out.below hb2 HG2.out.lt)
      have HB3 : Hid (Below B w v3) := Lib.hid (HB2.out.trans (hb2.mono zB2))
      have zB3 : B ≤ v3.heap.size := Nat.le_trans zB2 hb2.size
      have neFE : F ≠ v2.heap.size := Nat.ne_of_lt HF2.out.lt
      have neGE : G ≠ v2.heap.size := Nat.ne_of_lt HG2.out.lt
      generalize v2.heap.size = E at *
      have gE : B ≤ E := zB2
      have HE3 := Lib.hid hE3
      clear hE3 hb2
      clear HF2 HG2 HB2
      refine wpAnyH_ready (rs := [4]) (by kernel_rfl) (by simp) (AllReadyH.cons rfl (fun K hK => ?_) AllReadyH.nil)
      try simp only [List.getElem_toArray, List.getElem_cons_zero, List.getElem_cons_succ]
      refine if_wanted (by rfl) ?_
      refine wp_append_txt _ (.tmp 14) (.tmp 15) 23 rfl E 5 i0 (.int .u8 0) 1 Try.underlying23 HI.out.1 HI.out.2.1 HI.out.2.2.1 HI.out.2.2.2 rfl _ 0 [] rfl (own_empty HE3.out) (· < B) a0 n0 c0 l0 rfl (H0.out.below HB3.out (fun _ _ h => h)) (by unfold maxLen; omega) (by omega) (Nat.le_of_lt HE3.out.lt) ?_
      intro u4 v4 hown hg hq
      have HO4 : Hid (v4.ownsRow E 5 1 u4 n0 (nums l0)) := Lib.hid (by rw [Nat.zero_add] at hown; exact hown)
      obtain ⟨Q, cap4, rfl, hQ⟩ := own_at HO4.out hq
      have neQF : Q ≠ F := by
        rcases hQ with rfl | rfl
        · exact (Ne.symm neFE)
        · exact Ne.symm (Nat.ne_of_lt HF3.out.lt)
      have HF4 := Lib.hid (HF3.out.grown hg (slice_ne neFE))
      have neQG : Q ≠ G := by
        rcases hQ with rfl | rfl
        · exact (Ne.symm neGE)
        · exact Ne.symm (Nat.ne_of_lt HG3.out.lt)
      have HG4 := Lib.hid (HG3.out.grown hg (slice_ne neGE))
      have HB4 : Hid (Below B w v4) := Lib.hid (HB3.out.grown hg zB3 (fun k hk => slice_row hk gE))
      have zB4 : B ≤ v4.heap.size := Nat.le_trans zB3 hg.size
      have gQ : B ≤ Q := by
        rcases hQ with rfl | rfl
        · exact gE
        · exact zB3
      clear hown hg hq hQ
      clear HF3 HG3 HB3
      clear HE3
      refine hK.out _ _ trivial (fun hHeld => ?_)
      clear hK K
      try simp only [Act.put, List.getElem_toArray, List.getElem_cons_zero, List.getElem_cons_succ, List.setIfInBounds_toArray, List.set_cons_zero, List.set_cons_succ]
      refine wpAnyH_ready (rs := [17]) (by kernel_rfl) (by simp) (AllReadyH.cons rfl (fun K hK => ?_) AllReadyH.nil)
      try simp only [List.getElem_toArray, List.getElem_cons_zero, List.getElem_cons_succ]
      refine if_wanted (by rfl) ?_
      refine wp_append_txt _ (.tmp 16) (.tmp 28) 23 rfl E 5 i0 (.int .u8 0) 1 Try.underlying23 HI.out.1 HI.out.2.1 HI.out.2.2.1 HI.out.2.2.2 rfl _ n0 (nums l0) rfl HO4.out (fun _ => True) (some ⟨F, 0, none⟩) 4 4 (Cm.bytes x) rfl (txt_whole HF4.out (byt_bytes x)) (by unfold maxLen; omega) (by omega) (Nat.le_of_lt (Nat.lt_of_le_of_lt (own_lt HO4.out).1 (own_lt HO4.out).2)) ?_
      intro u5 v5 hown hg hq
      have HT5 : Hid (∃ a c, u5 = .slice a (n0 + 4) c ∧ Txt v5 (fun _ => True) a (n0 + 4) c (l0 ++ Cm.bytes x)) := Lib.hid (by
        rw [← nums_append] at hown
        obtain ⟨a, c, e, ht⟩ := Txt.own hown (byt_append H0.out.2.2.1 (byt_bytes x))
        exact ⟨a, c, e, ht.weak fun _ _ _ => trivial⟩)
      obtain ⟨q5, cap5, rfl, hT5⟩ := HT5.out
      clear HT5
      have HT5 := Lib.hid hT5
      have HG5 := Lib.hid (HG4.out.grown hg (slice_ne (Ne.symm neQG)))
      have HB5 : Hid (Below B w v5) := Lib.hid (HB4.out.grown hg zB4 (fun k hk => slice_row hk gQ))
      have zB5 : B ≤ v5.heap.size := Nat.le_trans zB4 hg.size
      clear hown hg hq hT5
      clear HO4 HF4 HG4 HB4
      refine hK.out _ _ trivial (fun hHeld => ?_)
      clear hK K
      try simp only [Act.put, List.getElem_toArray, List.getElem_cons_zero, List.getElem_cons_succ, List.setIfInBounds_toArray, List.set_cons_zero, List.set_cons_succ]
      refine wpAnyH_ready (rs := [18]) (by kernel_rfl) (by simp) (AllReadyH.cons rfl (fun K hK => ?_) AllReadyH.nil)
      try simp only [List.getElem_toArray, List.getElem_cons_zero, List.getElem_cons_succ]
      go_simp
      go_at_call 12
      refine (sum_any HT5.out (by omega)).mono ?_
      rintro e v6 ⟨rfl, hb5⟩
      rw [HEV.out]
      have HG6 := Lib.hid (HG5.out.below hb5 HG5.out.lt)
      have HB6 : Hid (Below B w v6) := Lib.hid (HB5.out.trans (hb5.mono zB5))
      have zB6 : B ≤ v6.heap.size := Nat.le_trans zB5 hb5.size
      clear hb5
      clear HT5 HG5 HB5
      go_wp2_with fail
      refine hK.out _ _ trivial (fun hHeld => ?_)
      clear hK K
      try simp only [Act.put, List.getElem_toArray, List.getElem_cons_zero, List.getElem_cons_succ, List.setIfInBounds_toArray, List.set_cons_zero, List.set_cons_succ]
      refine wpAnyH_ready (rs := [20]) (by kernel_rfl) (by simp) (AllReadyH.cons rfl (fun K hK => ?_) AllReadyH.nil)
      try simp only [List.getElem_toArray, List.getElem_cons_zero, List.getElem_cons_succ]
      go_simp
      go_at_call 12
      refine (sum_any (txt_whole HG6.out (byt_zeros 4)) (by simp [zeros])).mono ?_
      rintro e v7 ⟨rfl, hb6⟩
      have HB7 : Hid (Below B w v7) := Lib.hid (HB6.out.trans (hb6.mono zB6))
      have zB7 : B ≤ v7.heap.size := Nat.le_trans zB6 hb6.size
      clear hb6
      clear HG6 HB6
      go_wp2_with fail
      refine hK.out _ _ trivial (fun hHeld => ?_)
      clear hK K
      try simp only [Act.put, List.getElem_toArray, List.getElem_cons_zero, List.getElem_cons_succ, List.setIfInBounds_toArray, List.set_cons_zero, List.set_cons_succ]
      refine wpAnyH_take (i := 21) (v := .bool true) rfl (by kernel_rfl) (by kernel_rfl) (by kernel_rfl) (fun _ _ _ h => h) (Or.inl ⟨by rfl, (by intro w hSw; (try dsimp only at hSw); go_simp)⟩) (by assumption) ?_
      try simp only [Act.put, List.getElem_toArray, List.getElem_cons_zero, List.getElem_cons_succ, List.setIfInBounds_toArray, List.set_cons_zero, List.set_cons_succ]
      refine wpAnyH_take (i := 22) (v := .bool true) rfl (by kernel_rfl) (by kernel_rfl) (by kernel_rfl) (fun _ _ _ h => h) (Or.inl ⟨by rfl, (by intro w hSw; (try dsimp only at hSw); go_simp)⟩) (by assumption) ?_
      try simp only [Act.put, List.getElem_toArray, List.getElem_cons_zero, List.getElem_cons_succ, List.setIfInBounds_toArray, List.set_cons_zero, List.set_cons_succ]
      refine wpAnyH_take (i := 23) (v := .bool true) rfl (by kernel_rfl) (by kernel_rfl) (by kernel_rfl) (fun _ _ _ h => h) (Or.inl ⟨by rfl, (by intro w hSw; (try dsimp only at hSw); go_simp)⟩) (by assumption) ?_
      try simp only [Act.put, List.getElem_toArray, List.getElem_cons_zero, List.getElem_cons_succ, List.setIfInBounds_toArray, List.set_cons_zero, List.set_cons_succ]
      refine wpAnyH_done (by kernel_rfl) ?_ _
      go_wp2
      go_ret
      exact ⟨rfl, by rw [HBE.out]; exact HB7.out⟩
  · skip
    try simp only [List.getElem_toArray, List.getElem_cons_zero, List.getElem_cons_succ]
    go_simp
    refine hK.out _ _ trivial (fun hHeld => ?_)
    clear hK K
    try simp only [Act.put, List.getElem_toArray, List.getElem_cons_zero, List.getElem_cons_succ, List.setIfInBounds_toArray, List.set_cons_zero, List.set_cons_succ]
    have hG1 := Whole.new v0 5 (nums (zeros 4)).toArray
    have hb0 := below_alloc v0 (.cells (nums (zeros 4)).toArray 5)
    generalize v0.alloc (.cells (nums (zeros 4)).toArray 5) = v1 at *
    have HB1 : Hid (Below B w v1) := Lib.hid (HB0.out.trans (hb0.mono zB0))
    have zB1 : B ≤ v1.heap.size := Nat.le_trans zB0 hb0.size
    generalize v0.heap.size = G at *
    have HG1 := Lib.hid hG1
    clear hG1 hb0
    clear HB0
    refine wpAnyH_ready (rs := [2, 16]) (by kernel_rfl) (by simp) (AllReadyH.cons rfl (fun K hK => ?_) (AllReadyH.cons rfl (fun K hK => ?_) AllReadyH.nil))
    · skip
      try simp only [List.getElem_toArray, List.getElem_cons_zero, List.getElem_cons_succ]
      go_simp
      refine hK.out _ _ trivial (fun hHeld => ?_)
      clear hK K
      try simp only [Act.put, List.getElem_toArray, List.getElem_cons_zero, List.getElem_cons_succ, List.setIfInBounds_toArray, List.set_cons_zero, List.set_cons_succ]
      have hE2 := Whole.new v1 5 #[]
      have hb1 := below_alloc v1 (.cells #[] 5)
      generalize v1.alloc (.cells #[] 5) = v2 at *
      have HG2 := Lib.hid (HG1.out.below hb1 HG1.out.lt)
      have HB2 : Hid (Below B w v2) := Lib.hid (HB1.out.trans (hb1.mono zB1))
      have zB2 : B ≤ v2.heap.size := Nat.le_trans zB1 hb1.size
      have neGE : G ≠ v1.heap.size := Nat.ne_of_lt HG1.out.lt
      generalize v1.heap.size = E at *
      have gE : B ≤ E := zB1
      have HE2 := Lib.hid hE2
      clear hE2 hb1
      clear HG1 HB1
      refine wpAnyH_ready (rs := [4, 16]) (by kernel_rfl) (by simp) (AllReadyH.cons rfl (fun K hK => ?_) (AllReadyH.cons rfl (fun K hK => ?_) AllReadyH.nil))
      · skip
        try simp only [List.getElem_toArray, List.getElem_cons_zero, List.getElem_cons_succ]
        refine if_wanted (by rfl) ?_
        refine wp_append_txt _ (.tmp 14) (.tmp 15) 23 rfl E 5 i0 (.int .u8 0) 1 Try.underlying23 HI.out.1 HI.out.2.1 HI.out.2.2.1 HI.out.2.2.2 rfl _ 0 [] rfl (own_empty HE2.out) (· < B) a0 n0 c0 l0 rfl (H0.out.below HB2.out (fun _ _ h => h)) (by unfold maxLen; omega) (by omega) (Nat.le_of_lt HE2.out.lt) ?_
        intro u3 v3 hown hg hq
        have HO3 : Hid (v3.ownsRow E 5 1 u3 n0 (nums l0)) := Lib.hid (by rw [Nat.zero_add] at hown; exact hown)
        obtain ⟨Q, cap4, rfl, hQ⟩ := own_at HO3.out hq
        have neQG : Q ≠ G := by
          rcases hQ with rfl | rfl
          · exact (Ne.symm neGE)
          · exact Ne.symm (Nat.ne_of_lt HG2.out.lt)
        have HG3 := Lib.hid (HG2.out.grown hg (slice_ne neGE))
        have HB3 : Hid (Below B w v3) := Lib.hid (HB2.out.grown hg zB2 (fun k hk => slice_row hk gE))
        have zB3 : B ≤ v3.heap.size := Nat.le_trans zB2 hg.size
        have gQ : B ≤ Q := by
          rcases hQ with rfl | rfl
          · exact gE
          · exact zB2
        clear hown hg hq hQ
        clear HG2 HB2
        clear HE2
        refine hK.out _ _ trivial (fun hHeld => ?_)
        clear hK K
        try simp only [Act.put, List.getElem_toArray, List.getElem_cons_zero, List.getElem_cons_succ, List.setIfInBounds_toArray, List.set_cons_zero, List.set_cons_succ]
        refine wpAnyH_ready (rs := [16]) (by kernel_rfl) (by simp) (AllReadyH.cons rfl (fun K hK => ?_) AllReadyH.nil)
        try simp only [List.getElem_toArray, List.getElem_cons_zero, List.getElem_cons_succ]
        go_simp
        rw [cells_bytes]
        refine hK.out _ _ trivial (fun hHeld => ?_)
        clear hK K
        try simp only [Act.put, List.getElem_toArray, List.getElem_cons_zero, List.getElem_cons_succ, List.setIfInBounds_toArray, List.set_cons_zero, List.set_cons_succ]
        have hF4 := Whole.new v3 5 (nums (Cm.bytes x)).toArray
        have hb3 := below_alloc v3 (.cells (nums (Cm.bytes x)).toArray 5)
        generalize v3.alloc (.cells (nums (Cm.bytes x)).toArray 5) = v4 at *
        have HO4 := Lib.hid (own_keep HO3.out hb3)
        have HG4 := Lib.hid (HG3.out.below hb3 HG3.out.lt)
        have HB4 : Hid (Below B w v4) := Lib.hid (HB3.out.trans (hb3.mono zB3))
        have zB4 : B ≤ v4.heap.size := Nat.le_trans zB3 hb3.size
        have neQF : Q ≠ v3.heap.size := Nat.ne_of_lt (own_lt HO3.out).2
        have neGF : G ≠ v3.heap.size := Nat.ne_of_lt HG3.out.lt
        generalize v3.heap.size = F at *
        have HF4 := Lib.hid hF4
        clear hF4 hb3
        clear HO3 HG3 HB3
        refine wpAnyH_ready (rs := [17]) (by kernel_rfl) (by simp) (AllReadyH.cons rfl (fun K hK => ?_) AllReadyH.nil)
        try simp only [List.getElem_toArray, List.getElem_cons_zero, List.getElem_cons_succ]
        refine if_wanted (by rfl) ?_
        refine wp_append_txt _ (.tmp 16) (.tmp 28) 23 rfl E 5 i0 (.int .u8 0) 1 Try.underlying23 HI.out.1 HI.out.2.1 HI.out.2.2.1 HI.out.2.2.2 rfl _ n0 (nums l0) rfl HO4.out (fun _ => True) (some ⟨F, 0, none⟩) 4 4 (Cm.bytes x) rfl (txt_whole HF4.out (byt_bytes x)) (by unfold maxLen; omega) (by omega) (Nat.le_of_lt (Nat.lt_of_le_of_lt (own_lt HO4.out).1 (own_lt HO4.out).2)) ?_
        intro u5 v5 hown hg hq
        have HT5 : Hid (∃ a c, u5 = .slice a (n0 + 4) c ∧ Txt v5 (fun _ => True) a (n0 + 4) c (l0 ++ Cm.bytes x)) := Lib.hid (by
          rw [← nums_append] at hown
          obtain ⟨a, c, e, ht⟩ := Txt.own hown (byt_append H0.out.2.2.1 (byt_bytes x))
          exact ⟨a, c, e, ht.weak fun _ _ _ => trivial⟩)
        obtain ⟨q5, cap5, rfl, hT5⟩ := HT5.out
        clear HT5
        have HT5 := Lib.hid hT5
        have HG5 := Lib.hid (HG4.out.grown hg (slice_ne (Ne.symm neQG)))
        have HB5 : Hid (Below B w v5) := Lib.hid (HB4.out.grown hg zB4 (fun k hk => slice_row hk gQ))
        have zB5 : B ≤ v5.heap.size := Nat.le_trans zB4 hg.size
        clear hown hg hq hT5
        clear HO4 HF4 HG4 HB4
        refine hK.out _ _ trivial (fun hHeld => ?_)
        clear hK K
        try simp only [Act.put, List.getElem_toArray, List.getElem_cons_zero, List.getElem_cons_succ, List.setIfInBounds_toArray, List.set_cons_zero, List.set_cons_succ]
        refine wpAnyH_ready (rs := [18]) (by kernel_rfl) (by simp) (AllReadyH.cons rfl (fun K hK => ?_) AllReadyH.nil)
        try simp only [List.getElem_toArray, List.getElem_cons_zero, List.getElem_cons_succ]
        go_simp
        go_at_call 12
        refine (sum_any HT5.out (by omega)).mono ?_
        rintro e v6 ⟨rfl, hb5⟩
        rw [HEV.out]
        have HG6 := Lib.hid (HG5.out.below hb5 HG5.out.lt)
        have HB6 : Hid (Below B w v6) := Lib.hid (HB5.out.trans (hb5.mono zB5))
        have zB6 : B ≤ v6.heap.size := Nat.le_trans zB5 hb5.size
        clear hb5
        clear HT5 HG5 HB5
        go_wp2_with fail
        refine hK.out _ _ trivial (fun hHeld => ?_)
        clear hK K
        try simp only [Act.put, List.getElem_toArray, List.getElem_cons_zero, List.getElem_cons_succ, List.setIfInBounds_toArray, List.set_cons_zero, List.set_cons_succ]
        refine wpAnyH_ready (rs := [20]) (by kernel_rfl) (by simp) (AllReadyH.cons rfl (fun K hK => ?_) AllReadyH.nil)
        try simp only [List.getElem_toArray, List.getElem_cons_zero, List.getElem_cons_succ]
        go_simp
        go_at_call 12
        refine (sum_any (txt_whole HG6.out (byt_zeros 4)) (by simp [zeros])).mono ?_
        rintro e v7 ⟨rfl, hb6⟩
        have HB7 : Hid (Below B w v7) := Lib.hid (HB6.out.trans (hb6.mono zB6))
        have zB7 : B ≤ v7.heap.size := Nat.le_trans zB6 hb6.size
        clear hb6
        clear HG6 HB6
        go_wp2_with fail
        refine hK.out _ _ trivial (fun hHeld => ?_)
        clear hK K
        try simp only [Act.put, List.getElem_toArray, List.getElem_cons_zero, List.getElem_cons_succ, List.setIfInBounds_toArray, List.set_cons_zero, List.set_cons_succ]
        refine wpAnyH_take (i := 21) (v := .bool true) rfl (by kernel_rfl) (by kernel_rfl) (by kernel_rfl) (fun _ _ _ h => h) (Or.inl ⟨by rfl, (by intro w hSw; (try dsimp only at hSw); go_simp)⟩) (by assumption) ?_
        try simp only [Act.put, List.getElem_toArray, List.getElem_cons_zero, List.getElem_cons_succ, List.setIfInBounds_toArray, List.set_cons_zero, List.set_cons_succ]
        refine wpAnyH_take (i := 22) (v := .bool true) rfl (by kernel_rfl) (by kernel_rfl) (by kernel_rfl) (fun _ _ _ h => h) (Or.inl ⟨by rfl, (by intro w hSw; (try dsimp only at hSw); go_simp)⟩) (by assumption) ?_
        try simp only [Act.put, List.getElem_toArray, List.getElem_cons_zero, List.getElem_cons_succ, List.setIfInBounds_toArray, List.set_cons_zero, List.set_cons_succ]
        refine wpAnyH_take (i := 23) (v := .bool true) rfl (by kernel_rfl) (by kernel_rfl) (by kernel_rfl) (fun _ _ _ h => h) (Or.inl ⟨by rfl, (by intro w hSw; (try dsimp only at hSw); go_simp)⟩) (by assumption) ?_
        try simp only [Act.put, List.getElem_toArray, List.getElem_cons_zero, List.getElem_cons_succ, List.setIfInBounds_toArray, List.set_cons_zero, List.set_cons_succ]
        refine wpAnyH_done (by kernel_rfl) ?_ _
        go_wp2
        go_ret
        exact ⟨rfl, by rw [HBE.out]; exact HB7.out⟩
      · skip
        try simp only [List.getElem_toArray, List.getElem_cons_zero, List.getElem_cons_succ]
        go_simp
        rw [cells_bytes]
        refine hK.out _ _ trivial (fun hHeld => ?_)
        clear hK K
        try simp only [Act.put, List.getElem_toArray, List.getElem_cons_zero, List.getElem_cons_succ, List.setIfInBounds_toArray, List.set_cons_zero, List.set_cons_succ]
        have hF3 := Whole.new v2 5 (nums (Cm.bytes x)).toArray
        have hb2 := below_alloc v2 (.cells (nums (Cm.bytes x)).toArray 5)
        generalize v2.alloc (.cells (nums (Cm.bytes x)).toArray 5) = v3 at *
        have HE3 := Lib.hid (HE2.out.below hb2 HE2.out.lt)
        have HG3 := Lib.hid (HG2.out.below hb2 HG2.out.lt)
        have HB3 : Hid (Below B w v3) := Lib.hid (HB2.out.trans (hb2.mono zB2))
        have zB3 : B ≤ v3.heap.size := Nat.le_trans zB2 hb2.size
        have neEF : E ≠ v2.heap.size := Nat.ne_of_lt HE2.out.lt
        have neGF : G ≠ v2.heap.size := Nat.ne_of_lt HG2.out.lt
        generalize v2.heap.size = F at *
        have HF3 := Lib.hid hF3
        clear hF3 hb2
        clear HE2 HG2 HB2
        refine wpAnyH_ready (rs := [4]) (by kernel_rfl) (by simp) (AllReadyH.cons rfl (fun K hK => ?_) AllReadyH.nil)
        try simp only [List.getElem_toArray, List.getElem_cons_zero, List.getElem_cons_succ]
        refine if_wanted (by rfl) ?_
        refine wp_append_txt _ (.tmp 14) (.tmp 15) 23 rfl E 5 i0 (.int .u8 0) 1 Try.underlying23 HI.out.1 HI.out.2.1 HI.out.2.2.1 HI.out.2.2.2 rfl _ 0 [] rfl (own_empty HE3.out) (· < B) a0 n0 c0 l0 rfl (H0.out.below HB3.out (fun _ _ h => h)) (by unfold maxLen; omega) (by omega) (Nat.le_of_lt HE3.out.lt) ?_
        intro u4 v4 hown hg hq
        have HO4 : Hid (v4.ownsRow E 5 1 u4 n0 (nums l0)) := Lib.hid (by rw [Nat.zero_add] at hown; exact hown)
        obtain ⟨Q, cap4, rfl, hQ⟩ := own_at HO4.out hq
        have neQF : Q ≠ F := by
          rcases hQ with rfl | rfl
          · exact neEF
          · exact Ne.symm (Nat.ne_of_lt HF3.out.lt)
        have HF4 := Lib.hid (HF3.out.grown hg (slice_ne (Ne.symm neEF)))
        have neQG : Q ≠ G := by
          rcases hQ with rfl | rfl
          · exact (Ne.symm neGE)
          · exact Ne.symm (Nat.ne_of_lt HG3.out.lt)
        have HG4 := Lib.hid (HG3.out.grown hg (slice_ne neGE))
        have HB4 : Hid (Below B w v4) := Lib.hid (HB3.out.grown hg zB3 (fun k hk => slice_row hk gE))
        have zB4 : B ≤ v4.heap.size := Nat.le_trans zB3 hg.size
        have gQ : B ≤ Q := by
          rcases hQ with rfl | rfl
          · exact gE
          · exact zB3
        clear hown hg hq hQ
        clear HF3 HG3 HB3
        clear HE3
        refine hK.out _ _ trivial (fun hHeld => ?_)
        clear hK K
        try simp only [Act.put, List.getElem_toArray, List.getElem_cons_zero, List.getElem_cons_succ, List.setIfInBounds_toArray, List.set_cons_zero, List.set_cons_succ]
        refine wpAnyH_ready (rs := [17]) (by kernel_rfl) (by simp) (AllReadyH.cons rfl (fun K hK => ?_) AllReadyH.nil)
        try simp only [List.getElem_toArray, List.getElem_cons_zero, List.getElem_cons_succ]
        refine if_wanted (by rfl) ?_
        refine wp_append_txt _ (.tmp 16) (.tmp 28) 23 rfl E 5 i0 (.int .u8 0) 1 Try.underlying23 HI.out.1 HI.out.2.1 HI.out.2.2.1 HI.out.2.2.2 rfl _ n0 (nums l0) rfl HO4.out (fun _ => True) (some ⟨F, 0, none⟩) 4 4 (Cm.bytes x) rfl (txt_whole HF4.out (byt_bytes x)) (by unfold maxLen; omega) (by omega) (Nat.le_of_lt (Nat.lt_of_le_of_lt (own_lt HO4.out).1 (own_lt HO4.out).2)) ?_
        intro u5 v5 hown hg hq
        have HT5 : Hid (∃ a c, u5 = .slice a (n0 + 4) c ∧ Txt v5 (fun _ => True) a (n0 + 4) c (l0 ++ Cm.bytes x)) := Lib.hid (by
          rw [← nums_append] at hown
          obtain ⟨a, c, e, ht⟩ := Txt.own hown (byt_append H0.out.2.2.1 (byt_bytes x))
          exact ⟨a, c, e, ht.weak fun _ _ _ => trivial⟩)
        obtain ⟨q5, cap5, rfl, hT5⟩ := HT5.out
        clear HT5
        have HT5 := Lib.hid hT5
        have HG5 := Lib.hid (HG4.out.grown hg (slice_ne (Ne.symm neQG)))
        have HB5 : Hid (Below B w v5) := Lib.hid (HB4.out.grown hg zB4 (fun k hk => slice_row hk gQ))
        have zB5 : B ≤ v5.heap.size := Nat.le_trans zB4 hg.size
        clear hown hg hq hT5
        clear HO4 HF4 HG4 HB4
        refine hK.out _ _ trivial (fun hHeld => ?_)
        clear hK K
        try simp only [Act.put, List.getElem_toArray, List.getElem_cons_zero, List.getElem_cons_succ, List.setIfInBounds_toArray, List.set_cons_zero, List.set_cons_succ]
        refine wpAnyH_ready (rs := [18]) (by kernel_rfl) (by simp) (AllReadyH.cons rfl (fun K hK => ?_) AllReadyH.nil)
        try simp only [List.getElem_toArray, List.getElem_cons_zero, List.getElem_cons_succ]
        go_simp
        go_at_call 12
        refine (sum_any HT5.out (by omega)).mono ?_
        rintro e v6 ⟨rfl, hb5⟩
        rw [HEV.out]
        have HG6 := Lib.hid (HG5.out.below hb5 HG5.out.lt)
        have HB6 : Hid (Below B w v6) := Lib.hid (HB5.out.trans (hb5.mono zB5))
        have zB6 : B ≤ v6.heap.size := Nat.le_trans zB5 hb5.size
        clear hb5
        clear HT5 HG5 HB5
        go_wp2_with fail
        refine hK.out _ _ trivial (fun hHeld => ?_)
        clear hK K
        try simp only [Act.put, List.getElem_toArray, List.getElem_cons_zero, List.getElem_cons_succ, List.setIfInBounds_toArray, List.set_cons_zero, List.set_cons_succ]
        refine wpAnyH_ready (rs := [20]) (by kernel_rfl) (by simp) (AllReadyH.cons rfl (fun K hK => ?_) AllReadyH.nil)
        try simp only [List.getElem_toArray, List.getElem_cons_zero, List.getElem_cons_succ]
        go_simp
        go_at_call 12
        refine (sum_any (txt_whole HG6.out (byt_zeros 4)) (by simp [zeros])).mono ?_
        rintro e v7 ⟨rfl, hb6⟩
        have HB7 : Hid (Below B w v7) := Lib.hid (HB6.out.trans (hb6.mono zB6))
        have zB7 : B ≤ v7.heap.size := Nat.le_trans zB6 hb6.size
        clear hb6
        clear HG6 HB6
        go_wp2_with fail
        refine hK.out _ _ trivial (fun hHeld => ?_)
        clear hK K
        try simp only [Act.put, List.getElem_toArray, List.getElem_cons_zero, List.getElem_cons_succ, List.setIfInBounds_toArray, List.set_cons_zero, List.set_cons_succ]
        refine wpAnyH_take (i := 21) (v := .bool true) rfl (by kernel_rfl) (by kernel_rfl) (by kernel_rfl) (fun _ _ _ h => h) (Or.inl ⟨by rfl, (by intro w hSw; (try dsimp only at hSw); go_simp)⟩) (by assumption) ?_
        try simp only [Act.put, List.getElem_toArray, List.getElem_cons_zero, List.getElem_cons_succ, List.setIfInBounds_toArray, List.set_cons_zero, List.set_cons_succ]
        refine wpAnyH_take (i := 22) (v := .bool true) rfl (by kernel_rfl) (by kernel_rfl) (by kernel_rfl) (fun _ _ _ h => h) (Or.inl ⟨by rfl, (by intro w hSw; (try dsimp only at hSw); go_simp)⟩) (by assumption) ?_
        try simp only [Act.put, List.getElem_toArray, List.getElem_cons_zero, List.getElem_cons_succ, List.setIfInBounds_toArray, List.set_cons_zero, List.set_cons_succ]
        refine wpAnyH_take (i := 23) (v := .bool true) rfl (by kernel_rfl) (by kernel_rfl) (by kernel_rfl) (fun _ _ _ h => h) (Or.inl ⟨by rfl, (by intro w hSw; (try dsimp only at hSw); go_simp)⟩) (by assumption) ?_
        try simp only [Act.put, List.getElem_toArray, List.getElem_cons_zero, List.getElem_cons_succ, List.setIfInBounds_toArray, List.set_cons_zero, List.set_cons_succ]
        refine wpAnyH_done (by kernel_rfl) ?_ _
        go_wp2
        go_ret
        exact ⟨rfl, by rw [HBE.out]; exact HB7.out⟩
    · skip
      try simp only [List.getElem_toArray, List.getElem_cons_zero, List.getElem_cons_succ]
      go_simp
      rw [cells_bytes]
      refine hK.out _ _ trivial (fun hHeld => ?_)
      clear hK K
      try simp only [Act.put, List.getElem_toArray, List.getElem_cons_zero, List.getElem_cons_succ, List.setIfInBounds_toArray, List.set_cons_zero, List.set_cons_succ]
      have hF2 := Whole.new v1 5 (nums (Cm.bytes x)).toArray
      have hb1 := below_alloc v1 (.cells (nums (Cm.bytes x)).toArray 5)
      generalize v1.alloc (.cells (nums (Cm.bytes x)).toArray 5) = v2 at *
      have HG2 := Lib.hid (HG1.out.below hb1 HG1.out.lt)
      have HB2 : Hid (Below B w v2) := Lib.hid (HB1.out.trans (hb1.mono zB1))
      have zB2 : B ≤ v2.heap.size := Nat.le_trans zB1 hb1.size
      have neGF : G ≠ v1.heap.size := Nat.ne_of_lt HG1.out.lt
      generalize v1.heap.size = F at *
      have HF2 := Lib.hid hF2
      clear hF2 hb1
      clear HG1 HB1
      refine wpAnyH_ready (rs := [2]) (by kernel_rfl) (by simp) (AllReadyH.cons rfl (fun K hK => ?_) AllReadyH.nil)
      try simp only [List.getElem_toArray, List.getElem_cons_zero, List.getElem_cons_succ]
      go_simp
      refine hK.out _ _ trivial (fun hHeld => ?_)
      clear hK K
      try simp only [Act.put, List.getElem_toArray, List.getElem_cons_zero, List.getElem_cons_succ, List.setIfInBounds_toArray, List.set_cons_zero, List.set_cons_succ]
      have hE3 := Whole.new v2 5 #[]
      have hb2 := below_alloc v2 (.cells #[] 5)
      generalize v2.alloc (.cells #[] 5) = v3 at *
      have HF3 := Lib.hid (HF2.out.below hb2 HF2.out.lt)
      have HG3 := Lib.hid (HG2.out.below hb2 HG2.out.lt)
      have HB3 : Hid (Below B w v3) := Lib.hid (HB2.out.trans (hb2.mono zB2))
      have zB3 : B ≤ v3.heap.size := Nat.le_trans zB2 hb2.size
      have neFE : F ≠ v2.heap.size := Nat.ne_of_lt HF2.out.lt
      have neGE : G ≠ v2.heap.size := Nat.ne_of_lt HG2.out.lt
      generalize v2.heap.size = E at *
      have gE : B ≤ E := zB2
      have HE3 := Lib.hid hE3
      clear hE3 hb2
      clear HF2 HG2 HB2
      refine wpAnyH_ready (rs := [4]) (by kernel_rfl) (by simp) (AllReadyH.cons rfl (fun K hK => ?_) AllReadyH.nil)
      try simp only [List.getElem_toArray, List.getElem_cons_zero, List.getElem_cons_succ]
      refine if_wanted (by rfl) ?_
      refine wp_append_txt _ (.tmp 14) (.tmp 15) 23 rfl E 5 i0 (.int .u8 0) 1 Try.underlying23 HI.out.1 HI.out.2.1 HI.out.2.2.1 HI.out.2.2.2 rfl _ 0 [] rfl (own_empty HE3.out) (· < B) a0 n0 c0 l0 rfl (H0.out.below HB3.out (fun _ _ h => h)) (by unfold maxLen; omega) (by omega) (Nat.le_of_lt HE3.out.lt) ?_
      intro u4 v4 hown hg hq
      have HO4 : Hid (v4.ownsRow E 5 1 u4 n0 (nums l0)) := Lib.hid (by rw [Nat.zero_add] at hown; exact hown)
      obtain ⟨Q, cap4, rfl, hQ⟩ := own_at HO4.out hq
      have neQF : Q ≠ F := by
        rcases hQ with rfl | rfl
        · exact (Ne.symm neFE)
        · exact Ne.symm (Nat.ne_of_lt HF3.out.lt)
      have HF4 := Lib.hid (HF3.out.grown hg (slice_ne neFE))
      have neQG : Q ≠ G := by
        rcases hQ with rfl | rfl
        · exact (Ne.symm neGE)
        · exact Ne.symm (Nat.ne_of_lt HG3.out.lt)
      have HG4 := Lib.hid (HG3.out.grown hg (slice_ne neGE))
      have HB4 : Hid (Below B w v4) := Lib.hid (HB3.out.grown hg zB3 (fun k hk => slice_row hk gE))
      have zB4 : B ≤ v4.heap.size := Nat.le_trans zB3 hg.size
      have gQ : B ≤ Q := by
        rcases hQ with rfl | rfl
        · exact gE
        · exact zB3
      clear hown hg hq hQ
      clear HF3 HG3 HB3
      clear HE3
      refine hK.out _ _ trivial (fun hHeld => ?_)
      clear hK K
      try simp only [Act.put, List.getElem_toArray, List.getElem_cons_zero, List.getElem_cons_succ, List.setIfInBounds_toArray, List.set_cons_zero, List.set_cons_succ]
      refine wpAnyH_ready (rs := [17]) (by kernel_rfl) (by simp) (AllReadyH.cons rfl (fun K hK => ?_) AllReadyH.nil)
      try simp only [List.getElem_toArray, List.getElem_cons_zero, List.getElem_cons_succ]
      refine if_wanted (by rfl) ?_
      refine wp_append_txt _ (.tmp 16) (.tmp 28) 23 rfl E 5 i0 (.int .u8 0) 1 Try.underlying23 HI.out.1 HI.out.2.1 HI.out.2.2.1 HI.out.2.2.2 rfl _ n0 (nums l0) rfl HO4.out (fun _ => True) (some ⟨F, 0, none⟩) 4 4 (Cm.bytes x) rfl (txt_whole HF4.out (byt_bytes x)) (by unfold maxLen; omega) (by omega) (Nat.le_of_lt (Nat.lt_of_le_of_lt (own_lt HO4.out).1 (own_lt HO4.out).2)) ?_
      intro u5 v5 hown hg hq
      have HT5 : Hid (∃ a c, u5 = .slice a (n0 + 4) c ∧ Txt v5 (fun _ => True) a (n0 + 4) c (l0 ++ Cm.bytes x)) := Lib.hid (by
        rw [← nums_append] at hown
        obtain ⟨a, c, e, ht⟩ := Txt.own hown (byt_append H0.out.2.2.1 (byt_bytes x))
        exact ⟨a, c, e, ht.weak fun _ _ _ => trivial⟩)
      obtain ⟨q5, cap5, rfl, hT5⟩ := HT5.out
      clear HT5
      have HT5 := Lib.hid hT5
      have HG5 := Lib.hid (HG4.out.grown hg (slice_ne (Ne.symm neQG)))
      have HB5 : Hid (Below B w v5) := Lib.hid (HB4.out.grown hg zB4 (fun k hk => slice_row hk gQ))
      have zB5 : B ≤ v5.heap.size := Nat.le_trans zB4 hg.size
      clear hown hg hq hT5
      clear HO4 HF4 HG4 HB4
      refine hK.out _ _ trivial (fun hHeld => ?_)
      clear hK K
      try simp only [Act.put, List.getElem_toArray, List.getElem_cons_zero, List.getElem_cons_succ, List.setIfInBounds_toArray, List.set_cons_zero, List.set_cons_succ]
      refine wpAnyH_ready (rs := [18]) (by kernel_rfl) (by simp) (AllReadyH.cons rfl (fun K hK => ?_) AllReadyH.nil)
      try simp only [List.getElem_toArray, List.getElem_cons_zero, List.getElem_cons_succ]
      go_simp
      go_at_call 12
      refine (sum_any HT5.out (by omega)).mono ?_
      rintro e v6 ⟨rfl, hb5⟩
      rw [HEV.out]
      have HG6 := Lib.hid (HG5.out.below hb5 HG5.out.lt)
      have HB6 : Hid (Below B w v6) := Lib.hid (HB5.out.trans (hb5.mono zB5))
      have zB6 : B ≤ v6.heap.size := Nat.le_trans zB5 hb5.size
      clear hb5
      clear HT5 HG5 HB5
      go_wp2_with fail
      refine hK.out _ _ trivial (fun hHeld => ?_)
      clear hK K
      try simp only [Act.put, List.getElem_toArray, List.getElem_cons_zero, List.getElem_cons_succ, List.setIfInBounds_toArray, List.set_cons_zero, List.set_cons_succ]
      refine wpAnyH_ready (rs := [20]) (by kernel_rfl) (by simp) (AllReadyH.cons rfl (fun K hK => ?_) AllReadyH.nil)
      try simp only [List.getElem_toArray, List.getElem_cons_zero, List.getElem_cons_succ]
      go_simp
      go_at_call 12
      refine (sum_any (txt_whole HG6.out (byt_zeros 4)) (by simp [zeros])).mono ?_
      rintro e v7 ⟨rfl, hb6⟩
      have HB7 : Hid (Below B w v7) := Lib.hid (HB6.out.trans (hb6.mono zB6))
      have zB7 : B ≤ v7.heap.size := Nat.le_trans zB6 hb6.size
      clear hb6
      clear HG6 HB6
      go_wp2_with fail
      refine hK.out _ _ trivial (fun hHeld => ?_)
      clear hK K
      try simp only [Act.put, List.getElem_toArray, List.getElem_cons_zero, List.getElem_cons_succ, List.setIfInBounds_toArray, List.set_cons_zero, List.set_cons_succ]
      refine wpAnyH_take (i := 21) (v := .bool true) rfl (by kernel_rfl) (by kernel_rfl) (by kernel_rfl) (fun _ _ _ h => h) (Or.inl ⟨by rfl, (by intro w hSw; (try dsimp only at hSw); go_simp)⟩) (by assumption) ?_
      try simp only [Act.put, List.getElem_toArray, List.getElem_cons_zero, List.getElem_cons_succ, List.setIfInBounds_toArray, List.set_cons_zero, List.set_cons_succ]
      refine wpAnyH_take (i := 22) (v := .bool true) rfl (by kernel_rfl) (by kernel_rfl) (by kernel_rfl) (fun _ _ _ h => h) (Or.inl ⟨by rfl, (by intro w hSw; (try dsimp only at hSw); go_simp)⟩) (by assumption) ?_
      try simp only [Act.put, List.getElem_toArray, List.getElem_cons_zero, List.getElem_cons_succ, List.setIfInBounds_toArray, List.set_cons_zero, List.set_cons_succ]
      refine wpAnyH_take (i := 23) (v := .bool true) rfl (by kernel_rfl) (by kernel_rfl) (by kernel_rfl) (fun _ _ _ h => h) (Or.inl ⟨by rfl, (by intro w hSw; (try dsimp only at hSw); go_simp)⟩) (by assumption) ?_
      try simp only [Act.put, List.getElem_toArray, List.getElem_cons_zero, List.getElem_cons_succ, List.setIfInBounds_toArray, List.set_cons_zero, List.set_cons_succ]
      refine wpAnyH_done (by kernel_rfl) ?_ _
      go_wp2
      go_ret
      exact ⟨rfl, by rw [HBE.out]; exact HB7.out⟩
end Go.Proofs.Ytiagblmnmknnfaa
