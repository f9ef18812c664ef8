/-
  The walk of ManifestLimits.
-/
import Derived.Test.YtdjibhpjdhpcgaaDoorZq
set_option maxRecDepth 20000
namespace Go.Proofs.YtdjibhpjdhpcgaaDoor
set_option linter.unusedSimpArgs false
open Go.RowKit
theorem u8_infoN : (Tryd.prog.info? 5).map (fun i => (i.zero, i.size, i.bytes)) = some (some (.int .u8 0), 1, 1) := by kernel_rfl
theorem make_bytes (n : Nat) (hn : n ≤ 1000000) (w : World) : (Instr.makeSlice 23 (.int .i64 (n : Int)) (.int .i64 (n : Int))).run Tryd.prog w = .ok (.slice (some ⟨w.heap.size, 0, none⟩) n n) (w.alloc (.cells (nums (zs n)).toArray 5)) := by
  obtain ⟨i, hi, hz, hsize, hby⟩ := info_parts u8_infoN
  have h := run_make (P := Tryd.prog) w 23 5 i _ Tryd.underlying23 hi hz .i64 .i64 (n : Int) (n : Int) (by omega) (Int.le_refl _) (by rw [hby]; omega) (by omega)
  rw [hsize] at h
  simp only [Int.toNat_natCast, Value.cells, Nat.mul_one] at h
  have e : madeCells #[Value.int .u8 0] n = (nums (zs n)).toArray := by
    apply Array.ext_getElem?
    intro i
    by_cases hi : i < n
    · have hr : (nums (zs n)).toArray[i]? = some (.int .u8 0) := by rw [List.getElem?_toArray]; exact zs_get _ _ hi
      rw [hr]
      unfold madeCells
      rw [Array.getElem?_map]
      simp [hi, Nat.mod_one]
    · rw [Array.getElem?_eq_none (by rw [size_madeCells]; omega), Array.getElem?_eq_none (by rw [List.size_toArray, nums_len, zs_len]; omega)]
  rw [e] at h
  exact h
theorem limit_iff (n : Nat) (ch : Int) : Mf.cnt (n : Int) ch ≠ 0 ↔ 1 ≤ n ∧ n ≤ 65536 ∧ 1 ≤ ch ∧ ch ≤ 4096 ∧ (n : Int) ≤ 64 * ch := by
  constructor
  · intro h
    obtain ⟨h1, h2, h3, h4⟩ := Mf.cnt_in h
    have h5 := (Mf.cnt_mul h).2
    have h6 := Mf.cnt_le (n : Int) ch
    have h7 : (Mf.cnt (n : Int) ch : Int) * ch ≤ 64 * ch := Int.mul_le_mul_of_nonneg_right (by omega) (by omega)
    exact ⟨by omega, by omega, h3, h4, by omega⟩
  · rintro ⟨h1, h2, h3, h4, h5⟩ h
    have hq := Mf.quo (s := (n : Int)) h3
    unfold Mf.cnt at h
    rw [if_neg (by omega)] at h
    generalize ((n : Int) + ch - 1) / ch = q at hq h
    by_cases hb : 64 < q
    · have : 64 * ch ≤ (q - 1) * ch := Int.mul_le_mul_of_nonneg_right (by omega) (by omega)
      omega
    · rw [if_neg hb] at h
      have hq0 : q ≤ 0 := by omega
      have : q * ch ≤ 0 * ch := Int.mul_le_mul_of_nonneg_right hq0 (by omega)
      omega
theorem has_cells {w : World} {A : Nat} {P : Array Value} {m : Mf.Man} (h : Has w A P m) : ∃ a n c, w.cell? ⟨A, 0, none⟩ = some (.int .i64 m.size) ∧ w.cell? ⟨A, 1, none⟩ = some (.int .i64 m.chunk) ∧ w.cell? ⟨A, 2, none⟩ = some (.slice a n c) ∧ m.ds.length = n := by
  obtain ⟨a, n, c, e, h1, h2, _⟩ := h.2
  injection e with e
  subst e
  exact ⟨a, n, c, h.1.cell 0, h.1.cell 1, h.1.cell 2, h2.1⟩
set_option maxHeartbeats 4000000 in
theorem limits_walk (z : Int) (ch : Int) (w : World) (hR : Roots w) (hz : 0 ≤ z ∧ z < 4294967296) (hch : -9223372036854775808 ≤ ch ∧ ch ≤ 9223372036854775807) :
    Calls Tryd.prog 11 #[.int .u32 z, .int .i64 ch] w fun e w' => e = .returned (.bool true) ∧ Below w.heap.size w w' := by
  have HR := Lib.hid hR
  have HCH := Lib.hid hch
  obtain ⟨hch1, hch2⟩ := hch
  obtain ⟨hz1, hz2⟩ := hz
  obtain ⟨n, hn⟩ : ∃ n : Nat, z % 70000 = (n : Int) := ⟨(z % 70000).toNat, by omega⟩
  have hn7 : n < 70000 := by omega
  have hnm : z.tmod 70000 = (n : Int) := by rw [Int.tmod_eq_emod_of_nonneg hz1]; exact hn
  have hmk := make_bytes n (by omega)
  clear hR
  go_enter Tryd.func11, Tryd.ntmps11
  go_wp2_with (go_at_call 12; refine (awake_any _ HR.out).mono ?_; rintro e w1 ⟨rfl, hb⟩; have HB1 := Lib.hid hb; clear hb)
  have hT := txt_new (w := w1) (t := 5) (fr := (0, 0)) (l := zs n) (n := n) (fun _ => True) trivial (byt_zeros n) (zs_len n)
  have ha := below_alloc w1 (.cells (nums (zs n)).toArray 5)
  have HB2 := HB1.out.trans (ha.mono HB1.out.size)
  refine (build_any (img := zs n) (ch := ch) hT HCH.out (by omega) (HR.out.below HB2 HR.out.two)).mono ?_
  rintro e w2 ⟨⟨v, rfl, hmv⟩, hb2⟩
  obtain ⟨P, rfl, hPs, hPa⟩ := mv_agg hmv
  have HB3 := HB2.trans (hb2.mono HB2.size)
  have HB4 := Lib.hid (show Below w.heap.size w ((w2.alloc (.cells zm 27)).setRow w2.heap.size P) from put_below HB3 HB3.size)
  have HP := Lib.hid (has_put hmv zm)
  clear hT ha HB2 hb2 hmv HB3 HB1 hmk hnm hn hz1 hz2
  by_cases hN : Mf.cnt (n : Int) ch = 0
  · have hN' : Mf.cnt (zs n).length ch = 0 := by rw [zs_len]; exact hN
    rw [(bld_zero hN').2]
    have hno : ¬ (1 ≤ n ∧ n ≤ 65536 ∧ 1 ≤ ch ∧ ch ≤ 4096 ∧ (n : Int) ≤ 64 * ch) := fun h => (limit_iff n ch).2 h hN
    clear hN hN' HP
    by_cases c1 : ¬ (1 ≤ n)
    · have d0 : decide ((1 : Int) ≤ (n : Int)) = false := decide_eq_false (by omega)
      clear hno
      go_wp2_with (first | ((with_reducible show wpList _ _ _ ((⟨_, Op.store 27 _ _, _, _, _, _⟩ : Oper) :: _) _ _); rw [zeroM, show (mcs 0 0 (.slice none 0 0) (zs 32)).toArray = zm from rfl]; refine wpList_store_row rfl _ (.tmp 7) (.tmp 19) rfl w2.heap.size P rfl rfl 27 _ (Whole.new w2 _ _) (by rw [hPs]; exact info35) (by rw [hPs]; try rfl) hPa ?_) | fail)
      go_ret
      exact ⟨rfl, HB4.out⟩
    have d0 : decide ((1 : Int) ≤ (n : Int)) = true := decide_eq_true (by omega)
    by_cases c2 : ¬ (n ≤ 65536)
    · have d1 : decide ((n : Int) ≤ 65536) = false := decide_eq_false (by omega)
      clear hno
      go_wp2_with (first | ((with_reducible show wpList _ _ _ ((⟨_, Op.store 27 _ _, _, _, _, _⟩ : Oper) :: _) _ _); rw [zeroM, show (mcs 0 0 (.slice none 0 0) (zs 32)).toArray = zm from rfl]; refine wpList_store_row rfl _ (.tmp 7) (.tmp 19) rfl w2.heap.size P rfl rfl 27 _ (Whole.new w2 _ _) (by rw [hPs]; exact info35) (by rw [hPs]; try rfl) hPa ?_) | fail)
      go_ret
      exact ⟨rfl, HB4.out⟩
    have d1 : decide ((n : Int) ≤ 65536) = true := decide_eq_true (by omega)
    by_cases c3 : ¬ (1 ≤ ch)
    · have d2 : decide (1 ≤ ch) = false := decide_eq_false (by omega)
      clear hno
      go_wp2_with (first | ((with_reducible show wpList _ _ _ ((⟨_, Op.store 27 _ _, _, _, _, _⟩ : Oper) :: _) _ _); rw [zeroM, show (mcs 0 0 (.slice none 0 0) (zs 32)).toArray = zm from rfl]; refine wpList_store_row rfl _ (.tmp 7) (.tmp 19) rfl w2.heap.size P rfl rfl 27 _ (Whole.new w2 _ _) (by rw [hPs]; exact info35) (by rw [hPs]; try rfl) hPa ?_) | fail)
      go_ret
      exact ⟨rfl, HB4.out⟩
    have d2 : decide (1 ≤ ch) = true := decide_eq_true (by omega)
    by_cases c4 : ¬ (ch ≤ 4096)
    · have d3 : decide (ch ≤ 4096) = false := decide_eq_false (by omega)
      clear hno
      go_wp2_with (first | ((with_reducible show wpList _ _ _ ((⟨_, Op.store 27 _ _, _, _, _, _⟩ : Oper) :: _) _ _); rw [zeroM, show (mcs 0 0 (.slice none 0 0) (zs 32)).toArray = zm from rfl]; refine wpList_store_row rfl _ (.tmp 7) (.tmp 19) rfl w2.heap.size P rfl rfl 27 _ (Whole.new w2 _ _) (by rw [hPs]; exact info35) (by rw [hPs]; try rfl) hPa ?_) | fail)
      go_ret
      exact ⟨rfl, HB4.out⟩
    have d3 : decide (ch ≤ 4096) = true := decide_eq_true (by omega)
    have hlast : ¬ (n : Int) ≤ 64 * ch := fun h => hno ⟨by omega, by omega, by omega, by omega, h⟩
    have d4 : decide ((n : Int) ≤ 64 * ch) = false := decide_eq_false hlast
    have hcb : 1 ≤ ch ∧ ch ≤ 4096 := by omega
    clear hno hlast
    go_wp2_with (first | ((with_reducible show wpList _ _ _ ((⟨_, Op.store 27 _ _, _, _, _, _⟩ : Oper) :: _) _ _); rw [zeroM, show (mcs 0 0 (.slice none 0 0) (zs 32)).toArray = zm from rfl]; refine wpList_store_row rfl _ (.tmp 7) (.tmp 19) rfl w2.heap.size P rfl rfl 27 _ (Whole.new w2 _ _) (by rw [hPs]; exact info35) (by rw [hPs]; try rfl) hPa ?_) | fail)
    go_ret
    exact ⟨rfl, HB4.out⟩
  · have hN' : Mf.cnt (zs n).length ch ≠ 0 := by rw [zs_len]; exact hN
    rw [(bld_made hN').2]
    rw [(bld_made hN').1] at HP
    obtain ⟨h1, h2, h3, h4, h5⟩ := (limit_iff n ch).1 hN
    have hmu := Mf.cnt_mul hN
    have hle := Mf.cnt_le (n : Int) ch
    obtain ⟨a3, n3, c3, k0, k1, k2, hn3⟩ := has_cells HP.out
    have hms : (Mf.made (zs n) ch).size = (n : Int) := by show (((zs n).length : Nat) : Int) = n; rw [zs_len]
    have hmc : (Mf.made (zs n) ch).chunk = ch := rfl
    have hmn : n3 = Mf.cnt (n : Int) ch := by
      rw [← hn3]
      show (Mf.digsTo _ _ (Mf.cnt (((zs n).length : Nat) : Int) ch)).length = _
      rw [Mf.digsTo_len, zs_len]
    rw [hms] at k0
    rw [hmc] at k1
    rw [← hmn] at hmu hle
    obtain ⟨q1, hq1⟩ : ∃ q1, (n3 : Int) * ch = q1 := ⟨_, rfl⟩
    obtain ⟨q2, hq2⟩ : ∃ q2, ((n3 : Int) - 1) * ch = q2 := ⟨_, rfl⟩
    rw [hq1, hq2] at hmu
    have hn31 : 1 ≤ n3 := by omega
    have hq3 : q1 = q2 + ch := by rw [← hq1, ← hq2, Int.sub_mul, Int.one_mul]; omega
    have hq4 : 0 ≤ q2 := by rw [← hq2]; exact Int.mul_nonneg (by omega) (by omega)
    have d0 : decide ((1 : Int) ≤ (n : Int)) = true := decide_eq_true (by omega)
    have d1 : decide ((n : Int) ≤ 65536) = true := decide_eq_true (by omega)
    have d2 : decide (1 ≤ ch) = true := decide_eq_true h3
    have d3 : decide (ch ≤ 4096) = true := decide_eq_true h4
    have d4 : decide ((n : Int) ≤ 64 * ch) = true := decide_eq_true h5
    have d5 : decide ((n : Int) ≤ q1) = true := decide_eq_true (by omega)
    have d6 : decide (q2 < (n : Int)) = true := decide_eq_true (by omega)
    have hq2n : q2 ≤ 70000 := by omega
    have hq1n : q1 ≤ 80000 := by omega
    have hq10 : 0 ≤ q1 := by omega
    clear hN hN' hmu hms hmc hmn hn3 HP hq3
    go_wp2_with (first | ((with_reducible show wpList _ _ _ ((⟨_, Op.store 27 _ _, _, _, _, _⟩ : Oper) :: _) _ _); rw [zeroM, show (mcs 0 0 (.slice none 0 0) (zs 32)).toArray = zm from rfl]; refine wpList_store_row rfl _ (.tmp 7) (.tmp 19) rfl w2.heap.size P rfl rfl 27 _ (Whole.new w2 _ _) (by rw [hPs]; exact info35) (by rw [hPs]; try rfl) hPa ?_) | fail)
    go_ret
    exact ⟨rfl, HB4.out⟩
end Go.Proofs.YtdjibhpjdhpcgaaDoor
