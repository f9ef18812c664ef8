/-
  Rows of blocks; the walk of read.
-/
import Derived.Test.YtfecobkpdmjaeaaQc
namespace Go.Proofs.Ytfecobkpdmjaeaa
open Go.RowKit
set_option linter.unusedVariables false
set_option linter.unusedSimpArgs false
set_option maxRecDepth 20000
theorem info_km {b : List Int} (h : b.length = 64) : (Try.prog.info? 80).map (·.size) = some (nums b).length := by rw [nums_len, h]; exact info_k
def Alls (bs : List (List Int)) : Prop := ∀ b ∈ bs, Blk b
theorem alls_len {bs : List (List Int)} (h : Alls bs) : bs.flatten.length = bs.length * 64 := by
  induction bs with
  | nil => rfl
  | cons b bs ih => rw [List.flatten_cons, List.length_append, ih (fun x hx => h x (by simp [hx])), (h b (by simp)).1, List.length_cons]; omega
theorem alls_byt {bs : List (List Int)} (h : Alls bs) : Byt bs.flatten := by
  intro x hx
  obtain ⟨b, hb, hxb⟩ := List.mem_flatten.1 hx
  exact (h b hb).2 x hxb
theorem alls_app {a b : List (List Int)} (ha : Alls a) (hb : Alls b) : Alls (a ++ b) := fun x hx => (List.mem_append.1 hx).elim (ha x) (hb x)
theorem blk_get' {bs : List (List Int)} (h : Alls bs) {k : Nat} (hk : k < bs.length) : Blk (bs.getD k []) := by
  have := h (bs[k]) (List.getElem_mem hk)
  simpa [List.getD, hk] using this
theorem flat_idx {bs : List (List Int)} (h : Alls bs) : ∀ k r : Nat, k < bs.length → r < 64 → (nums bs.flatten)[k * 64 + r]? = (nums (bs.getD k []))[r]? := by
  induction bs with
  | nil => intro k r hk; simp at hk
  | cons d ds ih =>
    intro k r hk hr
    have hd : (nums d).length = 64 := by rw [nums_len, (h d (by simp)).1]
    rw [List.flatten_cons, nums_append]
    cases k with
    | zero =>
      rw [List.getElem?_append_left (by omega), Nat.zero_mul, Nat.zero_add]
      rfl
    | succ k =>
      rw [List.getElem?_append_right (by omega), hd, show (k + 1) * 64 + r - 64 = k * 64 + r by omega]
      exact ih (fun x hx => h x (by simp [hx])) k r (by simpa using hk) hr
theorem flat_range {w : World} {g : Nat} {t : TypeId} {bs : List (List Int)} (hw : Whole w g t (nums bs.flatten).toArray) (h : Alls bs) {k : Nat} (hk : k < bs.length) : w.rangeAt g (k * 64) (nums (bs.getD k [])) := by
  intro j v hv
  have hj : j < 64 := by have := (List.getElem?_eq_some_iff.1 hv).1; rw [nums_len, (blk_get' h hk).1] at this; exact this
  rw [hw.cell, List.getElem?_toArray, flat_idx h k j hk hj]
  exact hv
/-- So many blocks of a disk, from one on; the others as they were made. -/
def bsTo (f : Nat → List Int) (k n : Nat) : List (List Int) := (List.range k).map f ++ List.replicate (n - k) z64
theorem bsTo_len (f : Nat → List Int) {k n : Nat} (h : k ≤ n) : (bsTo f k n).length = n := by simp [bsTo]; omega
theorem z64_blk : Blk z64 := ⟨rfl, byt_zeros 64⟩
theorem bsTo_all {f : Nat → List Int} {k n : Nat} (h : ∀ i, i < k → Blk (f i)) : Alls (bsTo f k n) := by
  refine alls_app (fun x hx => ?_) (fun x hx => ?_)
  · obtain ⟨i, hi, rfl⟩ := List.mem_map.1 hx
    exact h i (List.mem_range.1 hi)
  · rw [(List.mem_replicate.1 hx).2]; exact z64_blk
theorem bsTo_step {f : Nat → List Int} {k n : Nat} (h : ∀ i, i < n → Blk (f i)) (hk : k < n) : splice (nums (bsTo f k n).flatten) (k * 64) (nums (f k)) = nums (bsTo f (k + 1) n).flatten := by
  have h1 : ((List.range k).map f).flatten.length = k * 64 := by
    rw [alls_len (fun x hx => by obtain ⟨i, hi, rfl⟩ := List.mem_map.1 hx; exact h i (by have := List.mem_range.1 hi; omega))]
    simp
  have h2 : (f k).length = 64 := (h k hk).1
  have e : bsTo f k n = (List.range k).map f ++ ([z64] ++ List.replicate (n - (k + 1)) z64) := by
    unfold bsTo
    rw [show n - k = (n - (k + 1)) + 1 by omega, List.replicate_succ]
    rfl
  have e2 : bsTo f (k + 1) n = (List.range k).map f ++ ([f k] ++ List.replicate (n - (k + 1)) z64) := by
    unfold bsTo
    rw [List.range_succ, List.map_append, List.append_assoc]
    rfl
  rw [e, e2]
  unfold splice
  rw [nums_len, h2, ← nums_take, ← nums_drop, ← nums_append, ← nums_append]
  congr 1
  simp only [List.flatten_append, List.flatten_cons, List.flatten_nil, List.append_nil]
  rw [List.take_append_of_le_length (by omega), List.take_of_length_le (by omega), ← h1, List.drop_append, List.drop_eq_nil_of_le (by omega), List.nil_append]
  have e3 : ((List.range k).map f).flatten.length + 64 - ((List.range k).map f).flatten.length = 64 := by omega
  rw [e3, List.drop_append_of_le_length (by rw [z64_len]; omega), List.drop_of_length_le (by rw [z64_len]; omega), List.nil_append]
theorem k_info : (Try.prog.info? 80).map (fun i => (i.zero, i.size, i.bytes)) = some (some (.agg zb), 64, 64) := by kernel_rfl
theorem info_parts {P : Program} {e : TypeId} {z : Value} {s b : Nat} (h : (P.info? e).map (fun i => (i.zero, i.size, i.bytes)) = some (some z, s, b)) : ∃ i, P.info? e = some i ∧ i.zero = some z ∧ i.size = s ∧ i.bytes = b := by
  cases hq : P.info? e with
  | none => simp [hq] at h
  | some i =>
    simp [hq] at h
    exact ⟨i, rfl, h.1, h.2.1, h.2.2⟩
theorem rep_flat (n : Nat) : (List.replicate n z64).flatten = List.replicate (n * 64) 0 := by
  induction n with
  | zero => rfl
  | succ n ih => rw [List.replicate_succ, List.flatten_cons, ih, Nat.succ_mul, Nat.add_comm, ← List.replicate_append_replicate]; rfl
theorem rep_get (n i : Nat) (h : i < n) : (nums (List.replicate n (0 : Int)))[i]? = some (.int .u8 0) := by simp [nums, h]
theorem made_ks (n : Nat) : madeCells zb (n * 64) = (nums (bsTo (fun _ => []) 0 n).flatten).toArray := by
  have e : (bsTo (fun _ => []) 0 n).flatten = List.replicate (n * 64) 0 := by unfold bsTo; simp only [List.range_zero, List.map_nil, List.nil_append, Nat.sub_zero]; exact rep_flat n
  rw [e]
  have hs : zb.size = 64 := rfl
  apply Array.ext_getElem?
  intro i
  by_cases hi : i < n * 64
  · have hr : (nums (List.replicate (n * 64) (0 : Int))).toArray[i]? = some (.int .u8 0) := by
      rw [List.getElem?_toArray, nums_get _ i (by simpa using hi)]
      simp [List.getD, hi]
    rw [hr]
    unfold madeCells
    rw [Array.getElem?_map, hs]
    have hz : zb[i % 64]? = some (.int .u8 0) := by
      show (nums (List.replicate 64 (0 : Int))).toArray[i % 64]? = _
      rw [List.getElem?_toArray]
      exact rep_get 64 _ (Nat.mod_lt _ (by omega))
    have hz3 : zb[i % 64]! = .int .u8 0 := by rw [getElem!_def, hz]
    simp [hi, hz3]
  · rw [Array.getElem?_eq_none (by rw [size_madeCells]; omega), Array.getElem?_eq_none (by rw [List.size_toArray, nums_len]; simp; omega)]
theorem make_ks (n : Nat) (hn : n ≤ 100000) (w : World) : (Instr.makeSlice 67 (.int .i64 (n : Int)) (.int .i64 (n : Int))).run Try.prog w = .ok (.slice (some ⟨w.heap.size, 0, none⟩) n n) (w.alloc (.cells (nums (bsTo (fun _ => []) 0 n).flatten).toArray 80)) := by
  obtain ⟨i, hi, hz, hsize, hby⟩ := info_parts k_info
  have h := run_make (P := Try.prog) w 67 80 i _ Try.underlying67 hi hz .i64 .i64 (n : Int) (n : Int) (by omega) (Int.le_refl _) (by rw [hby]; omega) (by omega)
  rw [hsize] at h
  simp only [Int.toNat_natCast, Value.cells] at h
  rw [made_ks] at h
  exact h
/-- Blocks of a disk, from one on. -/
def bsOf (A : Dm.A) (fr n : Nat) : List (List Int) := (List.range n).map fun i => Dm.read A (fr + i)
theorem bsTo_full (A : Dm.A) (fr n : Nat) : bsTo (fun i => Dm.read A (fr + i)) n n = bsOf A fr n := by simp [bsTo, bsOf]
set_option maxHeartbeats 4000000 in
theorem jread_any {p bb mb n fr m : Nat} {A : Dm.A} {w : World} (h : Dk w p bb mb A n) (hd : A.down = false) (hm : fr + m ≤ n) :
    Calls Try.prog 34 #[.pointer (some ⟨p, 0, none⟩), .int .i64 (fr : Int), .int .i64 (m : Int)] w fun e w' => ∃ g, e = .returned (.tuple #[.slice (some ⟨g, 0, none⟩) m m, .int .i64 0]) ∧ Whole w' g 80 (nums (bsOf A fr m).flatten).toArray ∧ w.heap.size ≤ g ∧ Below w.heap.size w w' := by
  have hsm := h.ok.small
  have hmk := make_ks m (by omega)
  have HD := Lib.hid (And.intro h hd)
  have HBK : Hid (∀ i, i < m → Blk (Dm.read A (fr + i))) := Lib.hid fun i hi => Dm.read_len h.ok (by omega)
  have e0 : bsTo (fun _ => []) 0 m = bsTo (fun i => Dm.read A (fr + i)) 0 m := by simp [bsTo]
  have H0 : Hid (Whole (w.alloc (.cells (nums (bsTo (fun _ => []) 0 m).flatten).toArray 80)) w.heap.size 80 (nums (bsTo (fun i => Dm.read A (fr + i)) 0 m).flatten).toArray ∧ Below w.heap.size w (w.alloc (.cells (nums (bsTo (fun _ => []) 0 m).flatten).toArray 80))) := Lib.hid ⟨by rw [← e0]; exact Whole.new w _ _, below_alloc _ _⟩
  clear h hd e0
  obtain ⟨Z, hZ⟩ : ∃ Z, (nums (bsTo (fun _ => []) 0 m).flatten).toArray = Z := ⟨_, rfl⟩
  rw [hZ] at hmk H0
  clear hZ
  go_enter Try.func34, Try.ntmps34
  go_wp2
  go_loopw [16] (fun v wr => ∃ i : Nat, i ≤ m ∧ v = .int .i64 (i : Int) ∧ Hid (Whole wr w.heap.size 80 (nums (bsTo (fun i => Dm.read A (fr + i)) i m).flatten).toArray ∧ Below w.heap.size w wr)) (fun v _ => m - (intOf v).toNat)
  case atStart => exact ⟨0, Nat.zero_le _, rfl, H0⟩
  case round =>
    clear H0 hmk
    obtain ⟨i, hi, rfl, HB⟩ := hrel
    by_cases hlt : i < m
    · have q1 : (i : Int) < (m : Int) := by omega
      go_wp2_with fail
      have hdr := HD.out.1.old HB.out.2
      refine (read_at (z := (fr : Int) + (i : Int)) hdr HD.out.2 (by omega) (by omega)).mono ?_
      rintro e w1 ⟨rfl, hb1⟩
      obtain ⟨b, hb⟩ : ∃ b, Dm.read A ((fr : Int) + (i : Int)).toNat = b := ⟨_, rfl⟩
      have hb' : Dm.read A (fr + i) = b := by rw [← hb, show ((fr : Int) + (i : Int)).toNat = fr + i by omega]
      have hbk : Blk b := by rw [← hb']; exact HBK.out i hlt
      rw [hb]
      obtain ⟨w2, h2, k2, b2⟩ := boxed w1 b
      have hb2 := hb1.trans (b2.mono hb1.size)
      have hw2 := HB.out.1.below hb2 HB.out.1.lt
      have hsp := bsTo_step (f := fun i => Dm.read A (fr + i)) (k := i) (n := m) HBK.out hlt
      simp only [hb'] at hsp
      have hfit : i * 64 + (nums b).length ≤ (nums (bsTo (fun i => Dm.read A (fr + i)) i m).flatten).length := by
        rw [nums_len, nums_len, alls_len (bsTo_all (fun j hj => HBK.out j (by omega))), bsTo_len _ hi, hbk.1]; omega
      have hw3 : Whole (w2.setRow w.heap.size (nums (bsTo (fun i => Dm.read A (fr + i)) (i + 1) m).flatten).toArray) w.heap.size 80 (nums (bsTo (fun i => Dm.read A (fr + i)) (i + 1) m).flatten).toArray := hw2.row _
      have hb3 : Below w.heap.size w (w2.setRow w.heap.size (nums (bsTo (fun i => Dm.read A (fr + i)) (i + 1) m).flatten).toArray) := below_row (HB.out.2.trans (hb2.mono HB.out.2.size)) (Nat.le_refl _) _
      have HN := Lib.hid (And.intro hw2 (And.intro hsp (And.intro hfit (And.intro k2 (And.intro hw3 (And.intro hb3 (And.intro h2 hbk)))))))
      clear hb hb' hbk hb1 h2 k2 b2 hb2 hw2 hsp hfit hw3 hb3 hdr
      have hzb := zero_b
      go_wp2_with (first | ((with_reducible show wpList _ _ _ ((⟨_, Op.store 45 _ _, _, _, _, _⟩ : Oper) :: _) _ _); refine wpList_store_row rfl 45 (.tmp 10) (.tmp 25) rfl w1.heap.size (nums b).toArray rfl rfl 45 zb (Whole.new w1 _ _) (info_bn HN.out.2.2.2.2.2.2.2.1) (size_bn HN.out.2.2.2.2.2.2.2.1) (all_nums _) ?_; rw [HN.out.2.2.2.2.2.2.1]) | ((with_reducible show wpList _ _ _ ((⟨_, Op.load 45 _, _, _, _, _⟩ : Oper) :: _) _ _); refine wpList_load_row rfl 45 (.tmp 10) rfl w1.heap.size rfl 45 (nums b).toArray (0, 0) _ HN.out.2.2.2.1 und_b rfl (info_bn HN.out.2.2.2.2.2.2.2.1) ?_) | ((with_reducible show wpList _ _ _ ((⟨_, Op.store 80 _ _, _, _, _, _⟩ : Oper) :: _) _ _); refine wpList_store_part rfl 80 (.tmp 33) (.tmp 32) rfl w.heap.size (i * 64) (nums b) rfl rfl HN.out.1 (info_km HN.out.2.2.2.2.2.2.2.1) (nums_one _) HN.out.2.2.1 ?_; rw [HN.out.2.1]) | fail)
      go_roundw
      case rel => exact ⟨i + 1, by omega, by go_num, Lib.hid ⟨HN.out.2.2.2.2.1, HN.out.2.2.2.2.2.1⟩⟩
      case measure => simp [intOf]; omega
    · obtain rfl : i = m := by omega
      have q1 : ¬ (i : Int) < (i : Int) := by omega
      have HE : Hid (Whole wr w.heap.size 80 (nums (bsOf A fr i).flatten).toArray ∧ Below w.heap.size w wr) := Lib.hid (by have := HB.out; rw [bsTo_full] at this; exact this)
      clear HB
      go_wp2
      go_ret2
      exact ⟨_, rfl, HE.out.1, Nat.le_refl _, HE.out.2⟩
end Go.Proofs.Ytfecobkpdmjaeaa
