/-
  The cells of a boot block; the walk of boot: what it tells.
-/
import Derived.Test.YtjpgepodkeccmaaDoorUg
import Derived.Deep.WholeRow
namespace Go.Proofs.YtjpgepodkeccmaaDoor
open Go.RowKit
set_option linter.unusedVariables false
set_option linter.unusedSimpArgs false
set_option maxRecDepth 20000
theorem und_k : Tryd.prog.underlying 66 = some (.array 64 5) := by kernel_rfl
theorem info_k : (Tryd.prog.info? 66).map (·.size) = some 64 := by kernel_rfl
def Blk (b : List Int) : Prop := b.length = 64 ∧ Byt b
theorem txt_part {w : World} {g : Nat} {t : TypeId} {l : List Int} (S : Nat → Prop) (hS : S g) (h : Whole w g t (nums l).toArray) (hb : Byt l) (i k c : Nat) (hk : i + k ≤ l.length) (hc : k ≤ c) : Txt w S (some ⟨g, i, none⟩) k c ((l.drop i).take k) := by
  refine ⟨by simp; omega, hc, byt_take (byt_drop hb _) _, Or.inr ⟨g, i, rfl, hS, h.lt, fun j hj => ?_⟩⟩
  rw [h.cell, List.getElem?_toArray, nums_get l (i + j) (by omega)]
  congr 2
  simp only [List.getD_eq_getElem?_getD, List.getElem?_take, if_pos hj, List.getElem?_drop]
/-- The cells of a block. -/
def KB (C : Array Value) (b : List Int) : Prop := C = (nums b).toArray ∧ Blk b
theorem KB.size {C : Array Value} {b : List Int} (h : KB C b) : C.size = 64 := by rw [h.1, List.size_toArray, nums_len]; exact h.2.1
theorem KB.info {C : Array Value} {b : List Int} (h : KB C b) : (Tryd.prog.info? 66).map (·.size) = some C.size := by rw [h.size]; exact info_k
theorem KB.infob {C : Array Value} {b : List Int} (h : KB C b) : (Tryd.prog.info? 32).map (·.size) = some C.size := by rw [h.size]; exact info_b
theorem KB.all {C : Array Value} {b : List Int} (h : KB C b) : C.all (·.oneCell') = true := by rw [h.1]; exact all_nums b
theorem KB.cell {w : World} {g : Nat} {t : TypeId} {C : Array Value} {b : List Int} (h : KB C b) (hw : Whole w g t C) (k : Nat) (hk : k < 64) : w.cell? ⟨g, k, none⟩ = some (.int .u8 (b.getD k 0)) := by
  obtain ⟨rfl, hb⟩ := h
  rw [hw.cell, List.getElem?_toArray, nums_get b k (by have := hb.1; omega)]
theorem KB.txt {w : World} {g : Nat} {t : TypeId} {C : Array Value} {b : List Int} (S : Nat → Prop) (hS : S g) (h : KB C b) (hw : Whole w g t C) (i k c : Nat) (hk : i + k ≤ 64) (hc : k ≤ c) : Txt w S (some ⟨g, i, none⟩) k c ((b.drop i).take k) := by
  obtain ⟨rfl, hb⟩ := h
  exact txt_part S hS hw hb.2 i k c (by rw [hb.1]; exact hk) hc
theorem bound8 {l : List Int} (h : Byt l) (hl : l.length ≤ 8) : Jl.num l < 18446744073709551616 := Nat.lt_of_lt_of_le (num_lt h) (Nat.pow_le_pow_right (n := 256) (by omega) hl)
theorem bound4 {l : List Int} (h : Byt l) (hl : l.length ≤ 4) : Jl.num l < 4294967296 := Nat.lt_of_lt_of_le (num_lt h) (Nat.pow_le_pow_right (n := 256) (by omega) hl)
theorem bound3 {l : List Int} (h : Byt l) (hl : l.length ≤ 3) : Jl.num l < 16777216 := Nat.lt_of_lt_of_le (num_lt h) (Nat.pow_le_pow_right (n := 256) (by omega) hl)
def zbt : Array Value := (bc Im.Z).toArray
theorem zero_bt (w : World) : (zeroValue 41).run Tryd.prog w = .ok (.agg zbt) w := by
  have h : (Tryd.prog.info? 41).map (·.zero) = some (some (.agg zbt)) := by kernel_rfl
  cases hq : Tryd.prog.info? 41 with
  | none => rw [hq] at h; cases h
  | some i =>
    rw [hq] at h
    simp only [Option.map_some, Option.some.injEq] at h
    simp [zeroValue, typeInfo, hq, h]
def z32 : List Int := List.replicate 32 0
theorem z32_len : z32.length = 32 := rfl
theorem built_b3 (a e s : Int) : Tryd.prog.built 41 [(0, .int .i64 a), (1, .int .i64 e), (2, .int .i64 s)] = some (bc ⟨a, e, s, z32⟩).toArray := by kernel_rfl
theorem yields_build {ops : Array Oper} {S : World → Prop} {o : Oper} {a : Act} (ty : TypeId) (hw : Region.wanted o (yielded ops a.tmps) = true) (parts : List (Nat × Operand)) (ho : o.op = .build ty parts.toArray)
    (vs : List (Nat × Value)) (hv : parts.map (fun q => (q.1, a.eval q.2)) = vs) (cells : Array Value) (hc : Tryd.prog.built ty vs = some cells) : YieldsIf Tryd.prog ops S o (.agg cells) a := by
  have e : (parts.toArray.map fun (i, x) => (i, a.eval x)).toList = vs := by rw [← hv]; simp
  refine Or.inl ⟨hw, fun w _ => ?_⟩
  unfold execOp
  simp only [ho, Sem.run_bind, run_build w ty _ cells (by rw [e, hc]), Result.andThen_ok]
  rfl
theorem bc_len {b : Im.Bt} (h : b.whole.length = 32) : (bc b).length = 35 := by simp [bc, nums_len, h]
theorem bc_one (b : Im.Bt) : ∀ v ∈ bc b, v.oneCell' = true := by
  intro v hv
  unfold bc at hv
  simp only [List.mem_cons] at hv
  rcases hv with rfl | rfl | rfl | h
  · rfl
  · rfl
  · rfl
  · exact nums_one _ v h
theorem bc_all (b : Im.Bt) : (bc b).toArray.all (·.oneCell') = true := Array.all_eq_true_iff_forall_mem.2 (fun v hv => bc_one b v (by simpa using hv))
theorem und_bt : ∃ fs, Tryd.prog.underlying 41 = some (.struct fs) := by
  have h : ((Tryd.prog.underlying 41).map fun d => match d with | .struct _ => true | _ => false) = some true := by kernel_rfl
  cases hq : Tryd.prog.underlying 41 with
  | none => rw [hq] at h; cases h
  | some d =>
    rw [hq] at h
    cases d <;> first | exact ⟨_, rfl⟩ | (simp at h)
theorem bc_lay {a e s : Int} {x y : List Int} (hx : x.length = 32) (hy : y.length = 32) : ((bc ⟨a, e, s, x⟩).toArray.toList.take 3 ++ (nums y ++ (bc ⟨a, e, s, x⟩).toArray.toList.drop (3 + (nums y).length))).toArray = (bc ⟨a, e, s, y⟩).toArray := by
  have h : (nums x).length = 32 := by rw [nums_len, hx]
  simp [bc, nums_len, hy, h]
theorem if_wanted {c : Bool} {p q : Prop} (h : c = true) (hp : p) : if c = true then p else q := by rw [if_pos h]; exact hp
theorem sgn_wrap (n : Nat) (h : n < 18446744073709551616) : IntKind.i64.wrap (n : Int) = Im.sgn n := by
  rw [IntKind.wrap_i64]
  unfold Im.sgn
  split <;> omega
set_option maxHeartbeats 8000000 in
theorem iboot_any {C : Array Value} {l : List Int} {w : World} (hb : KB C l) : Calls Tryd.prog 31 #[.agg C] w fun e w' => ∃ D, e = .returned (.agg D) ∧ KC D (Im.bt l) ∧ Below w.heap.size w w' := by
  obtain ⟨fsB, hun⟩ := und_bt
  have hw0 : Whole ((w.alloc (.cells C 66)).alloc (.cells zbt 41)) w.heap.size 66 C := (Whole.new w _ _).alloc _
  have hr0 : Whole ((w.alloc (.cells C 66)).alloc (.cells zbt 41)) (w.heap.size + 1) 41 zbt := by
    have := Whole.new (w.alloc (.cells C 66)) 41 zbt
    rw [size_alloc] at this
    exact this
  have hb0 : Below w.heap.size w ((w.alloc (.cells C 66)).alloc (.cells zbt 41)) := ((Below.refl _ _).alloc (Nat.le_refl _) _).alloc (by simp) _
  have hs0 : ((w.alloc (.cells C 66)).alloc (.cells zbt 41)).heap.size = w.heap.size + 1 + 1 := by simp
  have HB := Lib.hid hb
  have hzb := zero_bt
  have hx := byt_getD hb.2.2 8
  obtain ⟨x, hxe⟩ : ∃ x, l.getD 8 0 = x := ⟨_, rfl⟩
  rw [hxe] at hx
  obtain ⟨N1, hN1⟩ : ∃ N1, Jl.num ((l.drop 9).take 8) = N1 := ⟨_, rfl⟩
  obtain ⟨N2, hN2⟩ : ∃ N2, Jl.num ((l.drop 17).take 4) = N2 := ⟨_, rfl⟩
  have hN1b : N1 < 18446744073709551616 := by rw [← hN1]; exact bound8 (byt_take (byt_drop hb.2.2 _) _) (by simp; omega)
  have hN2b : N2 < 4294967296 := by rw [← hN2]; exact bound4 (byt_take (byt_drop hb.2.2 _) _) (by simp; omega)
  obtain ⟨ep, hep⟩ : ∃ ep, Im.sgn N1 = ep := ⟨_, rfl⟩
  have e1 : IntKind.i64.wrap (N1 : Int) = ep := by rw [sgn_wrap N1 hN1b, hep]
  have e1' : wrap64 (N1 : Int) = ep := by rw [← IntWalk.i64_left]; exact e1
  have e2 : IntKind.i64.wrap x = x := IntWalk.i64_in _ (by omega)
  have e3 : IntKind.i64.wrap (N2 : Int) = (N2 : Int) := IntWalk.i64_in _ (by omega)
  have HT : Hid (Im.bt l = ⟨x, ep, (N2 : Int), (l.drop 21).take 32⟩ ∧ ((l.drop 21).take 32).length = 32 ∧ Byt ((l.drop 21).take 32)) := Lib.hid ⟨by unfold Im.bt; rw [hxe, hN1, hN2, hep], by simp [hb.2.1], byt_take (byt_drop hb.2.2 _) _⟩
  have HN := Lib.hid (And.intro hxe (And.intro hN1 hN2))
  clear hb hxe hN1 hN2 hep
  go_enter Tryd.func31, Tryd.ntmps31
  go_wp2_with fail
  generalize (w.alloc (.cells C 66)).alloc (.cells zbt 41) = w1 at *
  have HS1 := Lib.hid hs0
  have hwd : Whole w1.drew w.heap.size 66 C := hw0
  have hrd : Whole w1.drew (w.heap.size + 1) 41 zbt := hr0
  have hbd : Below w.heap.size w w1.drew := ⟨hb0.os, hb0.tape, hb0.output, hb0.size, hb0.block⟩
  have hsd : w1.drew.heap.size = w.heap.size + 1 + 1 := hs0
  clear hw0 hr0 hb0 hs0 HS1
  refine wp_region_held_drew (S := fun v => v.cell? ⟨w.heap.size, 8, none⟩ = some (.int .u8 x)) (by kernel_rfl) (by have := HB.out.cell hwd 8 (by omega); rw [HN.out.1] at this; exact this) (fun hHeld => ?_)
  generalize w1.drew = w2 at *
  obtain ⟨B, hB⟩ : ∃ B, w.heap.size = B := ⟨_, rfl⟩
  rw [hB] at hwd hrd hbd hsd hHeld ⊢
  have hwa := hwd.alloc (.cells zbt 41)
  have hra := hrd.alloc (.cells zbt 41)
  have hca : (w2.alloc (.cells zbt 41)).cell? ⟨B, 8, none⟩ = some (.int .u8 x) := by have := HB.out.cell hwa 8 (by omega); rw [HN.out.1] at this; exact this
  have hcz := hHeld
  have hcf : (w2.alloc (.cells (bc ⟨x, ep, (N2 : Int), z32⟩).toArray 41)).cell? ⟨B, 8, none⟩ = some (.int .u8 x) := by have := HB.out.cell (hwd.alloc (.cells (bc ⟨x, ep, (N2 : Int), z32⟩).toArray 41)) 8 (by omega); rw [HN.out.1] at this; exact this
  have HT9z := Lib.hid (HB.out.txt (fun _ => True) trivial hwd 9 8 55 (by omega) (by omega))
  have HT9a := Lib.hid (HB.out.txt (fun _ => True) trivial hwa 9 8 55 (by omega) (by omega))
  have HT17z := Lib.hid (HB.out.txt (fun _ => True) trivial hwd 17 4 47 (by omega) (by omega))
  have HT17a := Lib.hid (HB.out.txt (fun _ => True) trivial hwa 17 4 47 (by omega) (by omega))
  have HF : Hid (Whole w2 B 66 C ∧ Whole w2 (B + 1) 41 zbt ∧ Below B w w2 ∧ w2.heap.size = B + 1 + 1) := Lib.hid ⟨hwd, hrd, hbd, hsd⟩
  have HBB := Lib.hid hB
  clear hwd hrd hbd hwa hra hsd hB
  refine wpAnyH_take (i := 0) (v := .pointer (some ⟨B, 8, none⟩)) rfl (by kernel_rfl) (by kernel_rfl) (by kernel_rfl) (fun _ _ _ h => h) (Or.inl ⟨by rfl, (by intro w hSw; (try dsimp only at hSw); go_simp)⟩) (by assumption) ?_
  try simp only [Act.put, List.getElem_toArray, List.getElem_cons_zero, List.getElem_cons_succ, List.setIfInBounds_toArray, List.set_cons_zero, List.set_cons_succ]
  refine wpAnyH_take (i := 1) (v := .int .u8 x) rfl (by kernel_rfl) (by kernel_rfl) (by kernel_rfl) (fun _ _ _ h => h) (Or.inl ⟨by rfl, (by intro w hSw; (try dsimp only at hSw); go_simp)⟩) (by assumption) ?_
  try simp only [Act.put, List.getElem_toArray, List.getElem_cons_zero, List.getElem_cons_succ, List.setIfInBounds_toArray, List.set_cons_zero, List.set_cons_succ]
  refine wpAnyH_take (i := 2) (v := .int .i64 x) rfl (by kernel_rfl) (by kernel_rfl) (by kernel_rfl) (fun _ _ _ h => h) (Or.inl ⟨by rfl, (by intro w hSw; (try dsimp only at hSw); go_simp)⟩) (by assumption) ?_
  try simp only [Act.put, List.getElem_toArray, List.getElem_cons_zero, List.getElem_cons_succ, List.setIfInBounds_toArray, List.set_cons_zero, List.set_cons_succ]
  refine wpAnyH_take (i := 3) (v := .slice (some ⟨B, 9, none⟩) 8 55) rfl (by kernel_rfl) (by kernel_rfl) (by kernel_rfl) (fun _ _ _ h => h) (Or.inl ⟨by rfl, (by intro w hSw; (try dsimp only at hSw); go_simp)⟩) (by assumption) ?_
  try simp only [Act.put, List.getElem_toArray, List.getElem_cons_zero, List.getElem_cons_succ, List.setIfInBounds_toArray, List.set_cons_zero, List.set_cons_succ]
  refine wpAnyH_take (i := 6) (v := .slice (some ⟨B, 17, none⟩) 4 47) rfl (by kernel_rfl) (by kernel_rfl) (by kernel_rfl) (fun _ _ _ h => h) (Or.inl ⟨by rfl, (by intro w hSw; (try dsimp only at hSw); go_simp)⟩) (by assumption) ?_
  try simp only [Act.put, List.getElem_toArray, List.getElem_cons_zero, List.getElem_cons_succ, List.setIfInBounds_toArray, List.set_cons_zero, List.set_cons_succ]
  refine wpAnyH_ready (rs := [4, 10]) (by kernel_rfl) (by simp) (AllReadyH.cons rfl (fun K hK => ?_) (AllReadyH.cons rfl (fun K hK => ?_) AllReadyH.nil))
  · skip
    try simp only [List.getElem_toArray, List.getElem_cons_zero, List.getElem_cons_succ]
    go_simp
    refine (number_any HT9z.out (by omega)).mono ?_
    rintro e w' ⟨rfl, rfl⟩
    rw [HN.out.2.1]
    go_wp2_with fail
    refine hK.out _ _ hcz (fun hHeld => ?_)
    clear hK K
    try simp only [Act.put, List.getElem_toArray, List.getElem_cons_zero, List.getElem_cons_succ, List.setIfInBounds_toArray, List.set_cons_zero, List.set_cons_succ]
    refine wpAnyH_take (i := 5) (v := .int .i64 ep) rfl (by kernel_rfl) (by kernel_rfl) (by kernel_rfl) (fun _ _ _ h => h) (Or.inl ⟨by rfl, (by intro w hSw; (try dsimp only at hSw); go_simp)⟩) (by assumption) ?_
    try simp only [Act.put, List.getElem_toArray, List.getElem_cons_zero, List.getElem_cons_succ, List.setIfInBounds_toArray, List.set_cons_zero, List.set_cons_succ]
    refine wpAnyH_ready (rs := [7, 10]) (by kernel_rfl) (by simp) (AllReadyH.cons rfl (fun K hK => ?_) (AllReadyH.cons rfl (fun K hK => ?_) AllReadyH.nil))
    · skip
      try simp only [List.getElem_toArray, List.getElem_cons_zero, List.getElem_cons_succ]
      go_simp
      refine (number_any HT17z.out (by omega)).mono ?_
      rintro e w' ⟨rfl, rfl⟩
      rw [HN.out.2.2]
      go_wp2_with fail
      refine hK.out _ _ hcz (fun hHeld => ?_)
      clear hK K
      try simp only [Act.put, List.getElem_toArray, List.getElem_cons_zero, List.getElem_cons_succ, List.setIfInBounds_toArray, List.set_cons_zero, List.set_cons_succ]
      refine wpAnyH_take (i := 8) (v := .int .i64 (N2 : Int)) rfl (by kernel_rfl) (by kernel_rfl) (by kernel_rfl) (fun _ _ _ h => h) (Or.inl ⟨by rfl, (by intro w hSw; (try dsimp only at hSw); go_simp)⟩) (by assumption) ?_
      try simp only [Act.put, List.getElem_toArray, List.getElem_cons_zero, List.getElem_cons_succ, List.setIfInBounds_toArray, List.set_cons_zero, List.set_cons_succ]
      refine wpAnyH_take (i := 9) (v := .agg (bc ⟨x, ep, (N2 : Int), z32⟩).toArray) rfl (by kernel_rfl) (by kernel_rfl) (by kernel_rfl) (fun _ _ _ h => h) (yields_build 41 (by rfl) [(0, .tmp 6), (1, .tmp 9), (2, .tmp 12)] rfl _ rfl _ (built_b3 _ _ _)) (by assumption) ?_
      try simp only [Act.put, List.getElem_toArray, List.getElem_cons_zero, List.getElem_cons_succ, List.setIfInBounds_toArray, List.set_cons_zero, List.set_cons_succ]
      refine wpAnyH_ready (rs := [10]) (by kernel_rfl) (by simp) (AllReadyH.cons rfl (fun K hK => ?_) AllReadyH.nil)
      try simp only [List.getElem_toArray, List.getElem_cons_zero, List.getElem_cons_succ]
      go_simp
      refine hK.out _ _ hca (fun hHeld => ?_)
      clear hK K
      try simp only [Act.put, List.getElem_toArray, List.getElem_cons_zero, List.getElem_cons_succ, List.setIfInBounds_toArray, List.set_cons_zero, List.set_cons_succ]
      refine wpAnyH_ready (rs := [11]) (by kernel_rfl) (by simp) (AllReadyH.cons rfl (fun K hK => ?_) AllReadyH.nil)
      try simp only [List.getElem_toArray, List.getElem_cons_zero, List.getElem_cons_succ]
      refine if_wanted (by rfl) ?_
      refine wp_store_row _ (.tmp 3) (.tmp 13) rfl w2.heap.size (bc ⟨x, ep, (N2 : Int), z32⟩).toArray rfl rfl 41 _ (Whole.new w2 _ _) (by rw [List.size_toArray, bc_len z32_len]; exact info_boot) (Eq.trans (b := 35) rfl (by rw [List.size_toArray, bc_len z32_len])) (bc_all _) ?_
      rw [World.setRow_alloc_new]
      refine hK.out _ _ hcf (fun hHeld => ?_)
      clear hK K
      try simp only [Act.put, List.getElem_toArray, List.getElem_cons_zero, List.getElem_cons_succ, List.setIfInBounds_toArray, List.set_cons_zero, List.set_cons_succ]
      refine wpAnyH_done (by kernel_rfl) ?_ _
      clear hHeld hca hcz hcf HT9z HT9a HT17z HT17a e1 e1' e2 e3 hzb
      have hg3 : Whole (w2.alloc (.cells (bc ⟨x, ep, (N2 : Int), z32⟩).toArray 41)) w2.heap.size 41 (bc ⟨x, ep, (N2 : Int), z32⟩).toArray := Whole.new w2 _ _
      have hw3 := HF.out.1.alloc (.cells (bc ⟨x, ep, (N2 : Int), z32⟩).toArray 41)
      have hr3 := HF.out.2.1.alloc (.cells (bc ⟨x, ep, (N2 : Int), z32⟩).toArray 41)
      have hb3 := HF.out.2.2.1.alloc (by rw [HF.out.2.2.2]; omega) (.cells (bc ⟨x, ep, (N2 : Int), z32⟩).toArray 41)
      generalize w2.alloc (.cells (bc ⟨x, ep, (N2 : Int), z32⟩).toArray 41) = w3 at *
      rw [HF.out.2.2.2] at hg3 ⊢
      have H3 := Lib.hid (And.intro hg3 (And.intro hw3 (And.intro hr3 hb3)))
      clear hg3 hw3 hr3 hb3
      go_wp2_with fail
      go_still_tail 3, (by kernel_rfl)
      change wpList _ _ _ _ _ w3.drew
      obtain ⟨wh, hwh⟩ : ∃ wh, (l.drop 21).take 32 = wh := ⟨_, rfl⟩
      have hwl : wh.length = 32 := by rw [← hwh]; exact HT.out.2.1
      have hsrc : ∀ i v, (nums wh)[i]? = some v → w3.drew.cell? ((⟨B, 21, none⟩ : Addr).add i) = some v := by
        intro i v hv
        rw [Addr.add_lit]
        show w3.cell? _ = _
        have hi : i < wh.length := by have := (List.getElem?_eq_some_iff.1 hv).1; rwa [nums_len] at this
        rw [H3.out.2.1.cell, HB.out.1, List.getElem?_toArray, ← hv, ← hwh, nums_take, nums_drop, List.getElem?_take, List.getElem?_drop, if_pos (by omega)]
      refine wpList_copy_own rfl (.tmp 15) (.tmp 16) 26 26 rfl 5 Tryd.underlying26 infou8 (B + 1 + 1) 3 32 32 ⟨B, 21, none⟩ 32 43 rfl rfl (bc ⟨x, ep, (N2 : Int), z32⟩).toArray 41 H3.out.1 (nums wh) (by rw [nums_len, hwl]; rfl) hsrc (by rw [nums_len, hwl, List.size_toArray, bc_len z32_len]; omega) (nums_one _) ?_
      rw [bc_lay z32_len hwl]
      have HD : Hid (KC (bc ⟨x, ep, (N2 : Int), wh⟩).toArray (Im.bt l)) := Lib.hid (by rw [HT.out.1, hwh]; exact ⟨rfl, hwl, by rw [← hwh]; exact HT.out.2.2⟩)
      obtain ⟨D, hD⟩ : ∃ D, (bc ⟨x, ep, (N2 : Int), wh⟩).toArray = D := ⟨_, rfl⟩
      rw [hD] at HD ⊢
      have hg4 : Whole (w3.drew.setRow (B + 1 + 1) D) (B + 1 + 1) 41 D := Whole.row (w := w3.drew) H3.out.1 _
      have hr4 : Whole (w3.drew.setRow (B + 1 + 1) D) (B + 1) 41 zbt := Whole.rowFar (w := w3.drew) H3.out.2.2.1 (by omega) _
      have hb4 : Below B w (w3.drew.setRow (B + 1 + 1) D) := below_row (w := w3.drew) ⟨H3.out.2.2.2.os, H3.out.2.2.2.tape, H3.out.2.2.2.output, H3.out.2.2.2.size, H3.out.2.2.2.block⟩ (by omega) _
      generalize w3.drew.setRow (B + 1 + 1) D = w4 at *
      have H4 := Lib.hid (And.intro hg4 (And.intro hr4 hb4))
      clear hg4 hr4 hb4 hsrc hD
      go_wp2_with (first | ((with_reducible show wpList _ _ _ ((⟨_, Op.load 41 _, _, _, _, _⟩ : Oper) :: _) _ _); refine wpList_load_row rfl 41 (.tmp 3) rfl (B + 1 + 1) rfl 41 D (0, 0) _ H4.out.1 hun rfl HD.out.info ?_) | ((with_reducible show wpList _ _ _ ((⟨_, Op.store 41 _ _, _, _, _, _⟩ : Oper) :: _) _ _); refine wpList_store_row rfl 41 (.tmp 2) (.tmp 18) rfl (B + 1) D rfl rfl 41 zbt H4.out.2.1 HD.out.info (Eq.trans (b := 35) rfl HD.out.size.symm) HD.out.all ?_) | fail)
      refine bodyPost_ret (results_one_cell rfl _ _ _ _ rfl (run_loadVar_row _ _ _ _ _ (0, 0) _ (H4.out.2.1.row D) hun rfl HD.out.info)) rfl ?_
      exact ⟨D, rfl, HD.out, by rw [HBB.out]; exact below_row H4.out.2.2 (by omega) _⟩
    · skip
      try simp only [List.getElem_toArray, List.getElem_cons_zero, List.getElem_cons_succ]
      go_simp
      refine hK.out _ _ hca (fun hHeld => ?_)
      clear hK K
      try simp only [Act.put, List.getElem_toArray, List.getElem_cons_zero, List.getElem_cons_succ, List.setIfInBounds_toArray, List.set_cons_zero, List.set_cons_succ]
      refine wpAnyH_ready (rs := [7]) (by kernel_rfl) (by simp) (AllReadyH.cons rfl (fun K hK => ?_) AllReadyH.nil)
      try simp only [List.getElem_toArray, List.getElem_cons_zero, List.getElem_cons_succ]
      go_simp
      refine (number_any HT17a.out (by omega)).mono ?_
      rintro e w' ⟨rfl, rfl⟩
      rw [HN.out.2.2]
      go_wp2_with fail
      refine hK.out _ _ hca (fun hHeld => ?_)
      clear hK K
      try simp only [Act.put, List.getElem_toArray, List.getElem_cons_zero, List.getElem_cons_succ, List.setIfInBounds_toArray, List.set_cons_zero, List.set_cons_succ]
      refine wpAnyH_take (i := 8) (v := .int .i64 (N2 : Int)) rfl (by kernel_rfl) (by kernel_rfl) (by kernel_rfl) (fun _ _ _ h => h) (Or.inl ⟨by rfl, (by intro w hSw; (try dsimp only at hSw); go_simp)⟩) (by assumption) ?_
      try simp only [Act.put, List.getElem_toArray, List.getElem_cons_zero, List.getElem_cons_succ, List.setIfInBounds_toArray, List.set_cons_zero, List.set_cons_succ]
      refine wpAnyH_take (i := 9) (v := .agg (bc ⟨x, ep, (N2 : Int), z32⟩).toArray) rfl (by kernel_rfl) (by kernel_rfl) (by kernel_rfl) (fun _ _ _ h => h) (yields_build 41 (by rfl) [(0, .tmp 6), (1, .tmp 9), (2, .tmp 12)] rfl _ rfl _ (built_b3 _ _ _)) (by assumption) ?_
      try simp only [Act.put, List.getElem_toArray, List.getElem_cons_zero, List.getElem_cons_succ, List.setIfInBounds_toArray, List.set_cons_zero, List.set_cons_succ]
      refine wpAnyH_ready (rs := [11]) (by kernel_rfl) (by simp) (AllReadyH.cons rfl (fun K hK => ?_) AllReadyH.nil)
      try simp only [List.getElem_toArray, List.getElem_cons_zero, List.getElem_cons_succ]
      refine if_wanted (by rfl) ?_
      refine wp_store_row _ (.tmp 3) (.tmp 13) rfl w2.heap.size (bc ⟨x, ep, (N2 : Int), z32⟩).toArray rfl rfl 41 _ (Whole.new w2 _ _) (by rw [List.size_toArray, bc_len z32_len]; exact info_boot) (Eq.trans (b := 35) rfl (by rw [List.size_toArray, bc_len z32_len])) (bc_all _) ?_
      rw [World.setRow_alloc_new]
      refine hK.out _ _ hcf (fun hHeld => ?_)
      clear hK K
      try simp only [Act.put, List.getElem_toArray, List.getElem_cons_zero, List.getElem_cons_succ, List.setIfInBounds_toArray, List.set_cons_zero, List.set_cons_succ]
      refine wpAnyH_done (by kernel_rfl) ?_ _
      clear hHeld hca hcz hcf HT9z HT9a HT17z HT17a e1 e1' e2 e3 hzb
      have hg3 : Whole (w2.alloc (.cells (bc ⟨x, ep, (N2 : Int), z32⟩).toArray 41)) w2.heap.size 41 (bc ⟨x, ep, (N2 : Int), z32⟩).toArray := Whole.new w2 _ _
      have hw3 := HF.out.1.alloc (.cells (bc ⟨x, ep, (N2 : Int), z32⟩).toArray 41)
      have hr3 := HF.out.2.1.alloc (.cells (bc ⟨x, ep, (N2 : Int), z32⟩).toArray 41)
      have hb3 := HF.out.2.2.1.alloc (by rw [HF.out.2.2.2]; omega) (.cells (bc ⟨x, ep, (N2 : Int), z32⟩).toArray 41)
      generalize w2.alloc (.cells (bc ⟨x, ep, (N2 : Int), z32⟩).toArray 41) = w3 at *
      rw [HF.out.2.2.2] at hg3 ⊢
      have H3 := Lib.hid (And.intro hg3 (And.intro hw3 (And.intro hr3 hb3)))
      clear hg3 hw3 hr3 hb3
      go_wp2_with fail
      go_still_tail 3, (by kernel_rfl)
      change wpList _ _ _ _ _ w3.drew
      obtain ⟨wh, hwh⟩ : ∃ wh, (l.drop 21).take 32 = wh := ⟨_, rfl⟩
      have hwl : wh.length = 32 := by rw [← hwh]; exact HT.out.2.1
      have hsrc : ∀ i v, (nums wh)[i]? = some v → w3.drew.cell? ((⟨B, 21, none⟩ : Addr).add i) = some v := by
        intro i v hv
        rw [Addr.add_lit]
        show w3.cell? _ = _
        have hi : i < wh.length := by have := (List.getElem?_eq_some_iff.1 hv).1; rwa [nums_len] at this
        rw [H3.out.2.1.cell, HB.out.1, List.getElem?_toArray, ← hv, ← hwh, nums_take, nums_drop, List.getElem?_take, List.getElem?_drop, if_pos (by omega)]
      refine wpList_copy_own rfl (.tmp 15) (.tmp 16) 26 26 rfl 5 Tryd.underlying26 infou8 (B + 1 + 1) 3 32 32 ⟨B, 21, none⟩ 32 43 rfl rfl (bc ⟨x, ep, (N2 : Int), z32⟩).toArray 41 H3.out.1 (nums wh) (by rw [nums_len, hwl]; rfl) hsrc (by rw [nums_len, hwl, List.size_toArray, bc_len z32_len]; omega) (nums_one _) ?_
      rw [bc_lay z32_len hwl]
      have HD : Hid (KC (bc ⟨x, ep, (N2 : Int), wh⟩).toArray (Im.bt l)) := Lib.hid (by rw [HT.out.1, hwh]; exact ⟨rfl, hwl, by rw [← hwh]; exact HT.out.2.2⟩)
      obtain ⟨D, hD⟩ : ∃ D, (bc ⟨x, ep, (N2 : Int), wh⟩).toArray = D := ⟨_, rfl⟩
      rw [hD] at HD ⊢
      have hg4 : Whole (w3.drew.setRow (B + 1 + 1) D) (B + 1 + 1) 41 D := Whole.row (w := w3.drew) H3.out.1 _
      have hr4 : Whole (w3.drew.setRow (B + 1 + 1) D) (B + 1) 41 zbt := Whole.rowFar (w := w3.drew) H3.out.2.2.1 (by omega) _
      have hb4 : Below B w (w3.drew.setRow (B + 1 + 1) D) := below_row (w := w3.drew) ⟨H3.out.2.2.2.os, H3.out.2.2.2.tape, H3.out.2.2.2.output, H3.out.2.2.2.size, H3.out.2.2.2.block⟩ (by omega) _
      generalize w3.drew.setRow (B + 1 + 1) D = w4 at *
      have H4 := Lib.hid (And.intro hg4 (And.intro hr4 hb4))
      clear hg4 hr4 hb4 hsrc hD
      go_wp2_with (first | ((with_reducible show wpList _ _ _ ((⟨_, Op.load 41 _, _, _, _, _⟩ : Oper) :: _) _ _); refine wpList_load_row rfl 41 (.tmp 3) rfl (B + 1 + 1) rfl 41 D (0, 0) _ H4.out.1 hun rfl HD.out.info ?_) | ((with_reducible show wpList _ _ _ ((⟨_, Op.store 41 _ _, _, _, _, _⟩ : Oper) :: _) _ _); refine wpList_store_row rfl 41 (.tmp 2) (.tmp 18) rfl (B + 1) D rfl rfl 41 zbt H4.out.2.1 HD.out.info (Eq.trans (b := 35) rfl HD.out.size.symm) HD.out.all ?_) | fail)
      refine bodyPost_ret (results_one_cell rfl _ _ _ _ rfl (run_loadVar_row _ _ _ _ _ (0, 0) _ (H4.out.2.1.row D) hun rfl HD.out.info)) rfl ?_
      exact ⟨D, rfl, HD.out, by rw [HBB.out]; exact below_row H4.out.2.2 (by omega) _⟩
  · skip
    try simp only [List.getElem_toArray, List.getElem_cons_zero, List.getElem_cons_succ]
    go_simp
    refine hK.out _ _ hca (fun hHeld => ?_)
    clear hK K
    try simp only [Act.put, List.getElem_toArray, List.getElem_cons_zero, List.getElem_cons_succ, List.setIfInBounds_toArray, List.set_cons_zero, List.set_cons_succ]
    refine wpAnyH_ready (rs := [4]) (by kernel_rfl) (by simp) (AllReadyH.cons rfl (fun K hK => ?_) AllReadyH.nil)
    try simp only [List.getElem_toArray, List.getElem_cons_zero, List.getElem_cons_succ]
    go_simp
    refine (number_any HT9a.out (by omega)).mono ?_
    rintro e w' ⟨rfl, rfl⟩
    rw [HN.out.2.1]
    go_wp2_with fail
    refine hK.out _ _ hca (fun hHeld => ?_)
    clear hK K
    try simp only [Act.put, List.getElem_toArray, List.getElem_cons_zero, List.getElem_cons_succ, List.setIfInBounds_toArray, List.set_cons_zero, List.set_cons_succ]
    refine wpAnyH_take (i := 5) (v := .int .i64 ep) rfl (by kernel_rfl) (by kernel_rfl) (by kernel_rfl) (fun _ _ _ h => h) (Or.inl ⟨by rfl, (by intro w hSw; (try dsimp only at hSw); go_simp)⟩) (by assumption) ?_
    try simp only [Act.put, List.getElem_toArray, List.getElem_cons_zero, List.getElem_cons_succ, List.setIfInBounds_toArray, List.set_cons_zero, List.set_cons_succ]
    refine wpAnyH_ready (rs := [7]) (by kernel_rfl) (by simp) (AllReadyH.cons rfl (fun K hK => ?_) AllReadyH.nil)
    try simp only [List.getElem_toArray, List.getElem_cons_zero, List.getElem_cons_succ]
    go_simp
    refine (number_any HT17a.out (by omega)).mono ?_
    rintro e w' ⟨rfl, rfl⟩
    rw [HN.out.2.2]
    go_wp2_with fail
    refine hK.out _ _ hca (fun hHeld => ?_)
    clear hK K
    try simp only [Act.put, List.getElem_toArray, List.getElem_cons_zero, List.getElem_cons_succ, List.setIfInBounds_toArray, List.set_cons_zero, List.set_cons_succ]
    refine wpAnyH_take (i := 8) (v := .int .i64 (N2 : Int)) rfl (by kernel_rfl) (by kernel_rfl) (by kernel_rfl) (fun _ _ _ h => h) (Or.inl ⟨by rfl, (by intro w hSw; (try dsimp only at hSw); go_simp)⟩) (by assumption) ?_
    try simp only [Act.put, List.getElem_toArray, List.getElem_cons_zero, List.getElem_cons_succ, List.setIfInBounds_toArray, List.set_cons_zero, List.set_cons_succ]
    refine wpAnyH_take (i := 9) (v := .agg (bc ⟨x, ep, (N2 : Int), z32⟩).toArray) rfl (by kernel_rfl) (by kernel_rfl) (by kernel_rfl) (fun _ _ _ h => h) (yields_build 41 (by rfl) [(0, .tmp 6), (1, .tmp 9), (2, .tmp 12)] rfl _ rfl _ (built_b3 _ _ _)) (by assumption) ?_
    try simp only [Act.put, List.getElem_toArray, List.getElem_cons_zero, List.getElem_cons_succ, List.setIfInBounds_toArray, List.set_cons_zero, List.set_cons_succ]
    refine wpAnyH_ready (rs := [11]) (by kernel_rfl) (by simp) (AllReadyH.cons rfl (fun K hK => ?_) AllReadyH.nil)
    try simp only [List.getElem_toArray, List.getElem_cons_zero, List.getElem_cons_succ]
    refine if_wanted (by rfl) ?_
    refine wp_store_row _ (.tmp 3) (.tmp 13) rfl w2.heap.size (bc ⟨x, ep, (N2 : Int), z32⟩).toArray rfl rfl 41 _ (Whole.new w2 _ _) (by rw [List.size_toArray, bc_len z32_len]; exact info_boot) (Eq.trans (b := 35) rfl (by rw [List.size_toArray, bc_len z32_len])) (bc_all _) ?_
    rw [World.setRow_alloc_new]
    refine hK.out _ _ hcf (fun hHeld => ?_)
    clear hK K
    try simp only [Act.put, List.getElem_toArray, List.getElem_cons_zero, List.getElem_cons_succ, List.setIfInBounds_toArray, List.set_cons_zero, List.set_cons_succ]
    refine wpAnyH_done (by kernel_rfl) ?_ _
    clear hHeld hca hcz hcf HT9z HT9a HT17z HT17a e1 e1' e2 e3 hzb
    have hg3 : Whole (w2.alloc (.cells (bc ⟨x, ep, (N2 : Int), z32⟩).toArray 41)) w2.heap.size 41 (bc ⟨x, ep, (N2 : Int), z32⟩).toArray := Whole.new w2 _ _
    have hw3 := HF.out.1.alloc (.cells (bc ⟨x, ep, (N2 : Int), z32⟩).toArray 41)
    have hr3 := HF.out.2.1.alloc (.cells (bc ⟨x, ep, (N2 : Int), z32⟩).toArray 41)
    have hb3 := HF.out.2.2.1.alloc (by rw [HF.out.2.2.2]; omega) (.cells (bc ⟨x, ep, (N2 : Int), z32⟩).toArray 41)
    generalize w2.alloc (.cells (bc ⟨x, ep, (N2 : Int), z32⟩).toArray 41) = w3 at *
    rw [HF.out.2.2.2] at hg3 ⊢
    have H3 := Lib.hid (And.intro hg3 (And.intro hw3 (And.intro hr3 hb3)))
    clear hg3 hw3 hr3 hb3
    go_wp2_with fail
    go_still_tail 3, (by kernel_rfl)
    change wpList _ _ _ _ _ w3.drew
    obtain ⟨wh, hwh⟩ : ∃ wh, (l.drop 21).take 32 = wh := ⟨_, rfl⟩
    have hwl : wh.length = 32 := by rw [← hwh]; exact HT.out.2.1
    have hsrc : ∀ i v, (nums wh)[i]? = some v → w3.drew.cell? ((⟨B, 21, none⟩ : Addr).add i) = some v := by
      intro i v hv
      rw [Addr.add_lit]
      show w3.cell? _ = _
      have hi : i < wh.length := by have := (List.getElem?_eq_some_iff.1 hv).1; rwa [nums_len] at this
      rw [H3.out.2.1.cell, HB.out.1, List.getElem?_toArray, ← hv, ← hwh, nums_take, nums_drop, List.getElem?_take, List.getElem?_drop, if_pos (by omega)]
    refine wpList_copy_own rfl (.tmp 15) (.tmp 16) 26 26 rfl 5 Tryd.underlying26 infou8 (B + 1 + 1) 3 32 32 ⟨B, 21, none⟩ 32 43 rfl rfl (bc ⟨x, ep, (N2 : Int), z32⟩).toArray 41 H3.out.1 (nums wh) (by rw [nums_len, hwl]; rfl) hsrc (by rw [nums_len, hwl, List.size_toArray, bc_len z32_len]; omega) (nums_one _) ?_
    rw [bc_lay z32_len hwl]
    have HD : Hid (KC (bc ⟨x, ep, (N2 : Int), wh⟩).toArray (Im.bt l)) := Lib.hid (by rw [HT.out.1, hwh]; exact ⟨rfl, hwl, by rw [← hwh]; exact HT.out.2.2⟩)
    obtain ⟨D, hD⟩ : ∃ D, (bc ⟨x, ep, (N2 : Int), wh⟩).toArray = D := ⟨_, rfl⟩
    rw [hD] at HD ⊢
    have hg4 : Whole (w3.drew.setRow (B + 1 + 1) D) (B + 1 + 1) 41 D := Whole.row (w := w3.drew) H3.out.1 _
    have hr4 : Whole (w3.drew.setRow (B + 1 + 1) D) (B + 1) 41 zbt := Whole.rowFar (w := w3.drew) H3.out.2.2.1 (by omega) _
    have hb4 : Below B w (w3.drew.setRow (B + 1 + 1) D) := below_row (w := w3.drew) ⟨H3.out.2.2.2.os, H3.out.2.2.2.tape, H3.out.2.2.2.output, H3.out.2.2.2.size, H3.out.2.2.2.block⟩ (by omega) _
    generalize w3.drew.setRow (B + 1 + 1) D = w4 at *
    have H4 := Lib.hid (And.intro hg4 (And.intro hr4 hb4))
    clear hg4 hr4 hb4 hsrc hD
    go_wp2_with (first | ((with_reducible show wpList _ _ _ ((⟨_, Op.load 41 _, _, _, _, _⟩ : Oper) :: _) _ _); refine wpList_load_row rfl 41 (.tmp 3) rfl (B + 1 + 1) rfl 41 D (0, 0) _ H4.out.1 hun rfl HD.out.info ?_) | ((with_reducible show wpList _ _ _ ((⟨_, Op.store 41 _ _, _, _, _, _⟩ : Oper) :: _) _ _); refine wpList_store_row rfl 41 (.tmp 2) (.tmp 18) rfl (B + 1) D rfl rfl 41 zbt H4.out.2.1 HD.out.info (Eq.trans (b := 35) rfl HD.out.size.symm) HD.out.all ?_) | fail)
    refine bodyPost_ret (results_one_cell rfl _ _ _ _ rfl (run_loadVar_row _ _ _ _ _ (0, 0) _ (H4.out.2.1.row D) hun rfl HD.out.info)) rfl ?_
    exact ⟨D, rfl, HD.out, by rw [HBB.out]; exact below_row H4.out.2.2 (by omega) _⟩
end Go.Proofs.YtjpgepodkeccmaaDoor
