/-
  The walk of end.
-/
import Derived.Test.YtjpgepodkeccmaaDoorHe
import Derived.Deep.Cut
namespace Go.Proofs.YtjpgepodkeccmaaDoor.Sh
open Go.Proofs.YtjpgepodkeccmaaDoor
set_option maxRecDepth 20000
open Go.RowKit
def zs (n : Nat) : List Int := List.replicate n 0
theorem zs_len (n : Nat) : (zs n).length = n := by simp [zs]
theorem zero72 : #[Value.int IntKind.u8 0, Value.int IntKind.u8 0, Value.int IntKind.u8 0, Value.int IntKind.u8 0, Value.int IntKind.u8 0, Value.int IntKind.u8 0, Value.int IntKind.u8 0, Value.int IntKind.u8 0, Value.int IntKind.u8 0, Value.int IntKind.u8 0, Value.int IntKind.u8 0, Value.int IntKind.u8 0, Value.int IntKind.u8 0, Value.int IntKind.u8 0, Value.int IntKind.u8 0, Value.int IntKind.u8 0, Value.int IntKind.u8 0, Value.int IntKind.u8 0, Value.int IntKind.u8 0, Value.int IntKind.u8 0, Value.int IntKind.u8 0, Value.int IntKind.u8 0, Value.int IntKind.u8 0, Value.int IntKind.u8 0, Value.int IntKind.u8 0, Value.int IntKind.u8 0, Value.int IntKind.u8 0, Value.int IntKind.u8 0, Value.int IntKind.u8 0, Value.int IntKind.u8 0, Value.int IntKind.u8 0, Value.int IntKind.u8 0, Value.int IntKind.u8 0, Value.int IntKind.u8 0, Value.int IntKind.u8 0, Value.int IntKind.u8 0, Value.int IntKind.u8 0, Value.int IntKind.u8 0, Value.int IntKind.u8 0, Value.int IntKind.u8 0, Value.int IntKind.u8 0, Value.int IntKind.u8 0, Value.int IntKind.u8 0, Value.int IntKind.u8 0, Value.int IntKind.u8 0, Value.int IntKind.u8 0, Value.int IntKind.u8 0, Value.int IntKind.u8 0, Value.int IntKind.u8 0, Value.int IntKind.u8 0, Value.int IntKind.u8 0, Value.int IntKind.u8 0, Value.int IntKind.u8 0, Value.int IntKind.u8 0, Value.int IntKind.u8 0, Value.int IntKind.u8 0, Value.int IntKind.u8 0, Value.int IntKind.u8 0, Value.int IntKind.u8 0, Value.int IntKind.u8 0, Value.int IntKind.u8 0, Value.int IntKind.u8 0, Value.int IntKind.u8 0, Value.int IntKind.u8 0, Value.int IntKind.u8 0, Value.int IntKind.u8 0, Value.int IntKind.u8 0, Value.int IntKind.u8 0, Value.int IntKind.u8 0, Value.int IntKind.u8 0, Value.int IntKind.u8 0, Value.int IntKind.u8 0] = (nums (zs 72)).toArray := rfl
theorem zero32z : #[Value.int IntKind.u8 0, Value.int IntKind.u8 0, Value.int IntKind.u8 0, Value.int IntKind.u8 0, Value.int IntKind.u8 0, Value.int IntKind.u8 0, Value.int IntKind.u8 0, Value.int IntKind.u8 0, Value.int IntKind.u8 0, Value.int IntKind.u8 0, Value.int IntKind.u8 0, Value.int IntKind.u8 0, Value.int IntKind.u8 0, Value.int IntKind.u8 0, Value.int IntKind.u8 0, Value.int IntKind.u8 0, Value.int IntKind.u8 0, Value.int IntKind.u8 0, Value.int IntKind.u8 0, Value.int IntKind.u8 0, Value.int IntKind.u8 0, Value.int IntKind.u8 0, Value.int IntKind.u8 0, Value.int IntKind.u8 0, Value.int IntKind.u8 0, Value.int IntKind.u8 0, Value.int IntKind.u8 0, Value.int IntKind.u8 0, Value.int IntKind.u8 0, Value.int IntKind.u8 0, Value.int IntKind.u8 0, Value.int IntKind.u8 0] = (nums (zs 32)).toArray := rfl
/-- The bytes behind a text of n bytes, its number of bits written as far as k bytes. -/
def tailTo (n k : Nat) : List Int := 128 :: (zs (Sm.noughts n) ++ ((Sm.bits8 n).take k ++ zs (71 - Sm.noughts n - k)))
theorem noughts_lt (n : Nat) : Sm.noughts n < 64 := by unfold Sm.noughts; omega
theorem bits8_len (n : Nat) : (Sm.bits8 n).length = 8 := by simp [Sm.bits8]
theorem tailTo_len (n k : Nat) (hk : k ≤ 8) : (tailTo n k).length = 72 := by
  have := noughts_lt n
  simp [tailTo, bits8_len, zs_len]; omega
theorem zero_72 (w : World) : (zeroValue 86).run Tryd.prog w = .ok (.agg (nums (zs 72)).toArray) w := by
  have h : (Tryd.prog.info? 86).map (·.zero) = some (some (.agg #[Value.int IntKind.u8 0, Value.int IntKind.u8 0, Value.int IntKind.u8 0, Value.int IntKind.u8 0, Value.int IntKind.u8 0, Value.int IntKind.u8 0, Value.int IntKind.u8 0, Value.int IntKind.u8 0, Value.int IntKind.u8 0, Value.int IntKind.u8 0, Value.int IntKind.u8 0, Value.int IntKind.u8 0, Value.int IntKind.u8 0, Value.int IntKind.u8 0, Value.int IntKind.u8 0, Value.int IntKind.u8 0, Value.int IntKind.u8 0, Value.int IntKind.u8 0, Value.int IntKind.u8 0, Value.int IntKind.u8 0, Value.int IntKind.u8 0, Value.int IntKind.u8 0, Value.int IntKind.u8 0, Value.int IntKind.u8 0, Value.int IntKind.u8 0, Value.int IntKind.u8 0, Value.int IntKind.u8 0, Value.int IntKind.u8 0, Value.int IntKind.u8 0, Value.int IntKind.u8 0, Value.int IntKind.u8 0, Value.int IntKind.u8 0, Value.int IntKind.u8 0, Value.int IntKind.u8 0, Value.int IntKind.u8 0, Value.int IntKind.u8 0, Value.int IntKind.u8 0, Value.int IntKind.u8 0, Value.int IntKind.u8 0, Value.int IntKind.u8 0, Value.int IntKind.u8 0, Value.int IntKind.u8 0, Value.int IntKind.u8 0, Value.int IntKind.u8 0, Value.int IntKind.u8 0, Value.int IntKind.u8 0, Value.int IntKind.u8 0, Value.int IntKind.u8 0, Value.int IntKind.u8 0, Value.int IntKind.u8 0, Value.int IntKind.u8 0, Value.int IntKind.u8 0, Value.int IntKind.u8 0, Value.int IntKind.u8 0, Value.int IntKind.u8 0, Value.int IntKind.u8 0, Value.int IntKind.u8 0, Value.int IntKind.u8 0, Value.int IntKind.u8 0, Value.int IntKind.u8 0, Value.int IntKind.u8 0, Value.int IntKind.u8 0, Value.int IntKind.u8 0, Value.int IntKind.u8 0, Value.int IntKind.u8 0, Value.int IntKind.u8 0, Value.int IntKind.u8 0, Value.int IntKind.u8 0, Value.int IntKind.u8 0, Value.int IntKind.u8 0, Value.int IntKind.u8 0, Value.int IntKind.u8 0])) := by kernel_rfl
  cases hq : Tryd.prog.info? 86 with
  | none => rw [hq] at h; cases h
  | some i =>
    rw [hq] at h
    simp only [Option.map_some, Option.some.injEq] at h
    rw [zero72] at h
    simp [zeroValue, typeInfo, hq, h]
theorem tail_start (n : Nat) : (nums (zs 72)).toArray.setIfInBounds 0 (.int .u8 128) = (nums (tailTo n 0)).toArray := by
  have h := noughts_lt n
  have e : zs (Sm.noughts n) ++ zs (71 - Sm.noughts n) = zs 71 := by
    unfold zs
    rw [List.replicate_append_replicate]
    congr 1
    omega
  unfold tailTo
  rw [List.take_zero, List.nil_append, Nat.sub_zero, e]
  rfl
theorem bits8_get (n k : Nat) (hk : k < 8) : (Sm.bits8 n).getD k 0 = ((8 * n / 2 ^ (56 - 8 * k) % 256 : Nat) : Int) := by
  simp [Sm.bits8, hk]
theorem byt_bits8 (n : Nat) : Byt (Sm.bits8 n) := by
  intro y hy
  simp only [Sm.bits8, List.mem_map] at hy
  obtain ⟨i, _, rfl⟩ := hy
  omega
theorem byt_tailTo (n k : Nat) : Byt (tailTo n k) := byt_cons (by omega) (by omega) (byt_append (byt_zeros _) (byt_append (byt_take (byt_bits8 n) k) (byt_zeros _)))
theorem nums_set (a r : List Int) (x y : Int) (k : Nat) (hk : a.length = k) : (nums (a ++ y :: r)).toArray.setIfInBounds k (.int .u8 x) = (nums (a ++ x :: r)).toArray := by
  subst hk
  simp [nums]
theorem tail_set (n k z : Nat) (hz : Sm.noughts n = z) (hk : k < 8) : (nums (tailTo n k)).toArray.setIfInBounds (1 + z + k) (.int .u8 (8 * (n : Int) / 2 ^ (8 * (7 - k)) % 256)) = (nums (tailTo n (k + 1))).toArray := by
  have h := noughts_lt n
  have e : zs (71 - z - k) = 0 :: zs (71 - z - (k + 1)) := by
    unfold zs
    rw [show 71 - z - k = (71 - z - (k + 1)) + 1 by omega, List.replicate_succ]
  have e2 : tailTo n k = (128 :: (zs z ++ (Sm.bits8 n).take k)) ++ 0 :: zs (71 - z - (k + 1)) := by
    unfold tailTo
    rw [hz, e]
    simp
  have e3 : tailTo n (k + 1) = (128 :: (zs z ++ (Sm.bits8 n).take k)) ++ (Sm.bits8 n).getD k 0 :: zs (71 - z - (k + 1)) := by
    unfold tailTo
    have : k < (Sm.bits8 n).length := by rw [bits8_len]; omega
    have hk1 : (Sm.bits8 n).take (k + 1) = (Sm.bits8 n).take k ++ [(Sm.bits8 n).getD k 0] := by
      rw [List.take_succ_eq_append_getElem this]
      simp [this]
    rw [hz, hk1]
    simp
  rw [e2, e3, bits8_get n k hk]
  have e4 : 8 * (n : Int) / 2 ^ (8 * (7 - k)) % 256 = ((8 * n / 2 ^ (56 - 8 * k) % 256 : Nat) : Int) := by
    rw [show 8 * (7 - k) = 56 - 8 * k by omega]
    simp
  rw [e4]
  refine nums_set _ _ _ _ _ ?_
  simp [zs_len, bits8_len]
  omega
theorem tail_end (n z : Nat) (hz : Sm.noughts n = z) : (tailTo n 8).take (1 + z + 8) = Sm.tail n := by
  have e : tailTo n 8 = Sm.tail n ++ zs (71 - z - 8) := by
    unfold tailTo Sm.tail
    rw [hz, List.take_of_length_le (by rw [bits8_len]; omega)]
    simp [zs]
  have e2 : (Sm.tail n).length = 1 + z + 8 := by
    simp [Sm.tail, hz, bits8_len]; omega
  rw [e, ← e2, List.take_left]
theorem und72 : Tryd.prog.underlying 86 = some (.array 72 5) := by kernel_rfl
theorem sz_u8 (w : World) : (sizeOf 5).run Tryd.prog w = .ok 1 w := by
  cases hq : Tryd.prog.info? 5 with
  | none => have := infou8; rw [hq] at this; cases this
  | some i =>
    have := infou8
    rw [hq] at this
    simp only [Option.map_some, Option.some.injEq] at this
    simp [sizeOf, typeInfo, hq, this]
theorem sliceAt_72 {B h : Nat} (hh : h ≤ 72) (w : World) : (Instr.sliceAt 86 (.pointer (some ⟨B, 0, none⟩)) none (some (.int .i64 (h : Int))) none).run Tryd.prog w = .ok (.slice (some ⟨B, 0, none⟩) h 72) w := by
  have hb : (0 : Int) ≤ (h : Int) ∧ (h : Int) ≤ ((72 : Nat) : Int) := by omega
  simp only [Instr.sliceAt, Instr.sureAddr, Instr.sliceBounds, Instr.sliceBound, Sem.run_bind, Sem.run_pure, Result.andThen_ok, run_underlying und72, asIntOf, if_pos hb, sz_u8, Int.toNat_natCast, Nat.zero_mul, Nat.sub_zero]
  rw [if_neg (by omega)]
  rfl
theorem grown_rowNew {a b : World} {row : Option Nat} {g : Nat} (h : a.grownBy b row) (hg : a.heap.size ≤ g) (cs : Array Value) : a.grownBy (b.setRow g cs) row :=
  ⟨h.os, h.tape, h.output, by simpa [World.setRow] using h.size, fun k hk hne => (setRow_other b g k cs (by omega)).trans (h.block k hk hne)⟩
set_option maxHeartbeats 2000000 in
theorem end_any {g : Nat} {l : List Int} {w : World} (h : Dg w g l) (hR : Roots w) (hg : 2 ≤ g) (hsz : l.length ≤ 900000) :
    Calls Tryd.prog 37 #[.pointer (some ⟨g, 0, none⟩)] w fun e w' => e = .returned (.agg (nums (Sm.dig l)).toArray) ∧ w.grownBy w' (some g) := by
  obtain ⟨n, hn⟩ : ∃ n, l.length = n := ⟨_, rfl⟩
  have c72 : w.cell? ⟨g, 72, none⟩ = some (.int .u64 (n : Int)) := by
    obtain ⟨bf, _, hin, hw⟩ := h
    rw [hn] at hw
    exact (hw.cell 72).trans (by rw [List.getElem?_toArray]; exact dcells_72 _ _ _ hin.1)
  have hgl : g < w.heap.size := by obtain ⟨bf, _, hin, hw⟩ := h; exact hw.lt
  rw [hn] at hsz
  have HN := Lib.hid hn
  have H := Lib.hid h
  have HR := Lib.hid hR
  clear hn h hR
  have hz72 := zero_72
  go_enter Tryd.func37, Tryd.ntmps37
  go_upto_region 2 with (fail)
  rw [zero32z]
  have kr := (Whole.new w 39 (nums (zs 32)).toArray).alloc (.cells (nums (zs 72)).toArray 86)
  have kt := Whole.new (w.alloc (.cells (nums (zs 32)).toArray 39)) 86 (nums (zs 72)).toArray
  have hb2 : Below w.heap.size w ((w.alloc (.cells (nums (zs 32)).toArray 39)).alloc (.cells (nums (zs 72)).toArray 86)) := (below_alloc w _).alloc (by simp) _
  rw [size_alloc] at kt
  generalize (w.alloc (.cells (nums (zs 32)).toArray 39)).alloc (.cells (nums (zs 72)).toArray 86) = w2 at *
  have d72 : w2.cell? ⟨g, 72, none⟩ = some (.int .u64 (n : Int)) := (hb2.cell (p := ⟨g, 72, none⟩) hgl).trans c72
  generalize hBe : w.heap.size = B at *
  have HBE := Lib.hid hBe
  clear hBe hz72 c72
  have t0 : w2.cell? ⟨B + 1, 0, none⟩ = some (.int .u8 0) := kt.cell 0
  have g0 : w2.frozen? ⟨B + 1, 0, none⟩ = false := kt.frozen 0
  have H2 := Lib.hid (And.intro kr (And.intro kt hb2))
  clear kr kt hb2
  have e72 : (w2.setCell ⟨B + 1, 0, none⟩ (.int .u8 128)).cell? ⟨g, 72, none⟩ = some (.int .u64 (n : Int)) := (World.cell?_setCell_far _ _ _ _ (by show B + 1 ≠ g; omega)).trans d72
  obtain ⟨z, hz⟩ : ∃ z, Sm.noughts n = z := ⟨_, rfl⟩
  have hz64 : z < 64 := by rw [← hz]; exact noughts_lt n
  have HZ := Lib.hid hz
  go_wp2_with (go_at_call 42; refine (noughts_any n _ (by omega)).mono ?_; rintro e w' ⟨rfl, rfl⟩; rw [hz])
  have hw3 : Whole (w2.setCell ⟨B + 1, 0, none⟩ (.int .u8 128)) (B + 1) 86 (nums (tailTo n 0)).toArray := by
    have := H2.out.2.1.set 0 (.int .u8 128)
    rw [tail_start n] at this
    exact this
  have H3 := Lib.hid (And.intro (H2.out.1.far (p := ⟨B + 1, 0, none⟩) (by show B ≠ B + 1; omega) (.int .u8 128)) (And.intro hw3 (H2.out.2.2.setCell (p := ⟨B + 1, 0, none⟩) (by show B ≤ B + 1; omega) (.int .u8 128))))
  clear hw3 H2 t0 g0 d72 e72 hz
  generalize w2.setCell ⟨B + 1, 0, none⟩ (.int .u8 128) = w3 at *
  go_loopw [19] (fun i wr => ∃ k : Nat, k ≤ 8 ∧ i = .int .i64 k ∧ Hid (Whole wr B 39 (nums (zs 32)).toArray ∧ Whole wr (B + 1) 86 (nums (tailTo n k)).toArray ∧ Below B w wr)) (fun i _ => 8 - (intOf i).toNat)
  case atStart => exact ⟨0, Nat.zero_le _, rfl, H3⟩
  case round =>
    clear H3
    obtain ⟨k, hk, rfl, HB⟩ := hrel
    by_cases hlt : k < 8
    · have hd : decide ((k : Int) < 8) = true := by simp; omega
      have q0 : (k : Int) < 8 := by omega
      have hlen := tailTo_len n k hk
      have c0 : wr.cell? ⟨B + 1, 1 + z + k, none⟩ = some (.int .u8 ((tailTo n k).getD (1 + z + k) 0)) := (HB.out.2.1.cell _).trans (by rw [List.getElem?_toArray, nums_get _ _ (by omega)])
      have f0 : wr.frozen? ⟨B + 1, 1 + z + k, none⟩ = false := HB.out.2.1.frozen _
      with_reducible generalize (tailTo n k).getD (1 + z + k) 0 = z0 at *
      clear hlen
      go_wp2
      go_roundw
      case rel =>
        refine ⟨k + 1, by omega, by go_num, Lib.hid ⟨HB.out.1.far (by show B ≠ B + 1; omega) _, ?_, HB.out.2.2.setCell (by show B ≤ B + 1; omega) _⟩⟩
        rw [← tail_set n k z HZ.out hlt]
        exact HB.out.2.1.set _ _
      case measure => simp [intOf]; omega
    · have hd : decide ((k : Int) < 8) = false := by simp; omega
      have hk8 : k = 8 := by omega
      have htx : Txt wr (· ≠ g) (some ⟨B + 1, 0, none⟩) (1 + z + 8) 72 (Sm.tail n) := by
        have h1 := HB.out.2.1
        rw [hk8] at h1
        have h2 := txt_of_whole (· ≠ g) (show B + 1 ≠ g by omega) h1 (byt_tailTo n 8) (1 + z + 8) 72 (by rw [tailTo_len n 8 (by omega)]; omega) (by omega)
        rwa [tail_end n z HZ.out] at h2
      have hdg : Dg wr g l := by
        obtain ⟨bf, h1, h2, h3⟩ := H.out
        exact ⟨bf, h1, h2, h3.below HB.out.2.2 hgl⟩
      have hrt : Roots wr := HR.out.below HB.out.2.2 (by omega)
      have K0 := Lib.hid HB.out.1
      have HBL := Lib.hid HB.out.2.2
      have HT := Lib.hid (And.intro htx (And.intro hdg hrt))
      have HK := Lib.hid hk8
      have hBw : B < wr.heap.size := HB.out.1.lt
      clear htx hdg hrt HB hk8
      have q1 : 1 + (z : Int) + 8 ≤ 72 := by omega
      have hsl := sliceAt_72 (B := B + 1) (h := 1 + z + 8) (by omega) wr
      rw [show ((1 + z + 8 : Nat) : Int) = 1 + (z : Int) + 8 by omega] at hsl
      go_wp2_with fail
      refine (add_any HT.out.2.1 HT.out.2.2 hg HT.out.1 (by rw [HN.out]; omega)).mono ?_
      rintro e w4 ⟨rfl, hdg, hgr⟩
      rw [← HN.out] at hdg
      obtain ⟨bf, h1, h2, h3⟩ := hdg
      have hr0 := range_st h3
      have K04 := Lib.hid (K0.out.grown hgr (by intro e; injection e; omega))
      have HG := Lib.hid hgr
      clear h1 h2 h3 hgr hsl q1
      go_wp2_with (first
        | ((with_reducible show wpList _ _ _ ((⟨_, Op.load 75 _, _, _, _, _⟩ : Oper) :: _) _ _); refine wpList_load_mid rfl _ (.tmp 40) rfl g 0 rfl _ _ hr0 undW8 rfl infoW8 ?_)
        | fail)
      refine (stateBytes_any (Sm.st (l ++ Sm.tail l.length)) w4).mono ?_
      rintro e w5 ⟨rfl, hb5⟩
      have hNa := all_nums (Sm.dig l)
      have HNS : Hid ((nums (Sm.dig l)).toArray.size = 32) := Lib.hid (by simp [nums_len, bytesOf_len, Sm.dig, Sm.St.l])
      have HZ32 : Hid ((nums (zs 32)).toArray.size = 32) := Lib.hid rfl
      have K05 := Lib.hid (K04.out.below hb5 K04.out.lt)
      have HG5 : Hid (w.grownBy w5 (some g)) := Lib.hid (grown_trans (grown_trans (by rw [← HBE.out] at HBL; exact grown_below HBL.out) HG.out) (grown_below hb5))
      rw [show Sm.bytesOf (Sm.st (l ++ Sm.tail l.length)).l = Sm.dig l from rfl]
      with_reducible generalize hN : (nums (Sm.dig l)).toArray = N at *
      clear hb5 hr0 HG K04
      go_wp2_with ((with_reducible show wpList _ _ _ ((⟨_, Op.store 39 _ _, _, _, _, _⟩ : Oper) :: _) _ _); refine wpList_store_row rfl _ (.tmp 2) (.tmp 42) rfl B N rfl rfl 39 _ K05.out (by rw [HNS.out]; exact info32) (by rw [HZ32.out, HNS.out]) hNa ?_)
      refine bodyPost_ret (results_one_cell rfl _ _ _ _ rfl (run_loadVar_row _ _ _ _ _ (0, 0) _ (K05.out.row N) und32 rfl (by rw [HNS.out]; exact info32))) rfl ?_
      exact ⟨by rw [hN], grown_rowNew HG5.out (by rw [HBE.out]; exact Nat.le_refl _) N⟩
end Go.Proofs.YtjpgepodkeccmaaDoor.Sh
