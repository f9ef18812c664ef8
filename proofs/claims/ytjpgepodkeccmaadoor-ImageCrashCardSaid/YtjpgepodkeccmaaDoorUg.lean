/-
  The walk of Get; Put and Get where there is no such area.
-/
import Derived.Test.YtjpgepodkeccmaaDoorUf
namespace Go.Proofs.YtjpgepodkeccmaaDoor
open Go.RowKit
set_option linter.unusedVariables false
set_option linter.unusedSimpArgs false
set_option maxRecDepth 20000
theorem put_bad {v : Value} {fr room at_ : Int} {a : Option Addr} {len c : Nat} {w : World} (hl : len ≤ 1000000) (hf : Calls Tryd.prog 26 #[v, .int .i64 fr, .int .i64 room, .int .i64 at_, .int .i64 (len : Int)] w fun e w' => e = .returned (.bool false) ∧ w = w') :
    Calls Tryd.prog 15 #[v, .int .i64 fr, .int .i64 room, .int .i64 at_, .slice a len c] w fun e w' => e = .returned (.int .i64 1) ∧ w = w' := by
  have HF := Lib.hid hf
  clear hf
  go_enter Tryd.func15, Tryd.ntmps15
  go_wp2_with (go_at_call 26; refine HF.out.mono ?_; rintro e w' ⟨rfl, rfl⟩)
  go_ret
  exact ⟨rfl, rfl⟩
theorem get_bad {v : Value} {fr room size : Int} {w : World} (hf : Calls Tryd.prog 26 #[v, .int .i64 fr, .int .i64 room, .int .i64 0, .int .i64 size] w fun e w' => e = .returned (.bool false) ∧ w = w') :
    Calls Tryd.prog 16 #[v, .int .i64 fr, .int .i64 room, .int .i64 size] w fun e w' => e = .returned (.tuple #[.slice none 0 0, .int .i64 1]) ∧ w = w' := by
  have HF := Lib.hid hf
  clear hf
  go_enter Tryd.func16, Tryd.ntmps16
  go_wp2_with (go_at_call 26; refine HF.out.mono ?_; rintro e w' ⟨rfl, rfl⟩)
  go_ret2
  exact ⟨rfl, rfl⟩
theorem put_arg {p bb mb n len c : Nat} {A : Dm.A} {fr room at_ : Int} {a : Option Addr} {w : World} (h : Dk w p bb mb A n) (hfr : I64 fr) (hat : I64 at_) (hl : len ≤ 1000000) (hf : fitsB n fr room at_ len = false) :
    Calls Tryd.prog 15 #[.pointer (some ⟨p, 0, none⟩), .int .i64 fr, .int .i64 room, .int .i64 at_, .slice a len c] w fun e w' => e = .returned (.int .i64 1) ∧ w = w' :=
  put_bad hl (by have := fits_any (room := room) (many := (len : Int)) h hfr hat ⟨by omega, by omega⟩; rw [hf] at this; exact this)
theorem put_nil {len c : Nat} {fr room at_ : Int} {a : Option Addr} {w : World} (hl : len ≤ 1000000) :
    Calls Tryd.prog 15 #[.pointer none, .int .i64 fr, .int .i64 room, .int .i64 at_, .slice a len c] w fun e w' => e = .returned (.int .i64 1) ∧ w = w' := put_bad hl fits_nil
theorem get_arg {p bb mb n : Nat} {A : Dm.A} {fr room size : Int} {w : World} (h : Dk w p bb mb A n) (hfr : I64 fr) (hsz : I64 size) (hf : fitsB n fr room 0 size = false) :
    Calls Tryd.prog 16 #[.pointer (some ⟨p, 0, none⟩), .int .i64 fr, .int .i64 room, .int .i64 size] w fun e w' => e = .returned (.tuple #[.slice none 0 0, .int .i64 1]) ∧ w = w' :=
  get_bad (by have := fits_any (room := room) (at_ := 0) (many := size) h hfr ⟨by omega, by omega⟩ hsz; rw [hf] at this; exact this)
theorem get_nil {fr room size : Int} {w : World} :
    Calls Tryd.prog 16 #[.pointer none, .int .i64 fr, .int .i64 room, .int .i64 size] w fun e w' => e = .returned (.tuple #[.slice none 0 0, .int .i64 1]) ∧ w = w' := get_bad fits_nil
theorem area_byt {C : List Int} (h : Byt C) (fr size : Nat) : Byt (area C fr size) := byt_take (byt_drop h _) _
set_option maxHeartbeats 4000000 in
theorem get_ok {p bb mb n fr room size : Nat} {A : Dm.A} {w : World} (h : Dk w p bb mb A n) (hd : A.down = false) (hfr : fr + room ≤ n) (hsz : size ≤ 64 * room) :
    Calls Tryd.prog 16 #[.pointer (some ⟨p, 0, none⟩), .int .i64 (fr : Int), .int .i64 (room : Int), .int .i64 (size : Int)] w fun e w' => ∃ g, e = .returned (.tuple #[.slice (some ⟨g, 0, none⟩) size size, .int .i64 0]) ∧ Whole w' g 5 (nums (area (Dm.now A) fr size)).toArray ∧ w.heap.size ≤ g ∧ Below w.heap.size w w' := by
  have hsm := h.ok.small
  have hfit : fitsB n fr room 0 size = true := by unfold fitsB hasB; simp; omega
  have HF := Lib.hid (fits_any (fr := fr) (room := room) (at_ := 0) (many := size) h ⟨by omega, by omega⟩ ⟨by omega, by omega⟩ ⟨by omega, by omega⟩)
  rw [hfit] at HF
  have hng := Dm.now_get h.ok
  obtain ⟨C, hC⟩ : ∃ C, Dm.now A = C := ⟨_, rfl⟩
  rw [hC] at hng ⊢
  have hmk := make_zeros size (by omega)
  obtain ⟨K, hK⟩ : ∃ K, (size + 63) / 64 = K := ⟨_, rfl⟩
  have HI := Lib.hid fun (w : World) => iblocks_any (w := w) (z := (size : Int)) ⟨by omega, by omega⟩
  have eK : blks (size : Int) = K := by unfold blks; omega
  rw [eK] at HI
  have hal := area_len (size := size) (fr := fr) hng.1 (by omega)
  have H0 : Hid (Whole (w.alloc (.cells (nums (zeros size)).toArray 5)) w.heap.size 5 (nums (gk (area C fr size) 0)).toArray ∧ Below w.heap.size w (w.alloc (.cells (nums (zeros size)).toArray 5))) := Lib.hid ⟨by
    rw [gk_zero, hal]
    exact Whole.new w _ _, below_alloc _ _⟩
  obtain ⟨Z, hZ⟩ : ∃ Z, (nums (zeros size)).toArray = Z := ⟨_, rfl⟩
  rw [hZ] at hmk H0
  have HD := Lib.hid (And.intro h (And.intro hd (And.intro hng (And.intro hfr hsz))))
  have HK : Hid (∀ k, k < K ↔ 64 * k < size) := Lib.hid fun k => by omega
  have b1 : fr ≤ 4096 := by omega
  have b2 : size ≤ 262144 := by omega
  have b3 : K ≤ 4097 := by omega
  clear h hd hfit hng hZ hK eK hal hfr hsz hC hsm
  go_enter Tryd.func16, Tryd.ntmps16
  go_wp2_with (first | (go_at_call 26; refine HF.out.mono ?_; rintro e w' ⟨rfl, rfl⟩) | (go_at_call 11; refine (HI.out _).mono ?_; rintro e w' ⟨rfl, rfl⟩) | fail)
  go_loopw [24] (fun v wr => ∃ k : Nat, k ≤ K ∧ v = .int .i64 (k : Int) ∧ Hid (Whole wr w.heap.size 5 (nums (gk (area C fr size) k)).toArray ∧ Below w.heap.size w wr)) (fun v _ => K - (intOf v).toNat)
  case atStart => exact ⟨0, Nat.zero_le _, rfl, H0⟩
  case round =>
    clear H0 hmk
    obtain ⟨k, hk, rfl, HB⟩ := hrel
    by_cases hlt : k < K
    · have c0 : (k : Int) < (K : Int) := by omega
      have h64 := (HK.out k).1 hlt
      obtain ⟨hdk0, hdn, hng, hfr, hsz⟩ := HD.out
      have hrd := Dm.read_len hdk0.ok (m := fr + k) (by omega)
      have hgs := gk_step (size := size) (fr := fr) hng.1 (by omega) h64
      have hbk := hng.2.2 (fr + k)
      obtain ⟨X, hX⟩ : ∃ X, Dm.read A (fr + k) = X := ⟨_, rfl⟩
      have hXz : Dm.read A ((fr : Int) + (k : Int)).toNat = X := by rw [← hX, show ((fr : Int) + (k : Int)).toNat = fr + k by omega]
      rw [hX] at hrd hbk
      rw [hbk] at hgs
      go_wp2_with fail
      refine (read_at (z := (fr : Int) + (k : Int)) (hdk0.old HB.out.2) hdn (by omega) (by omega)).mono ?_
      rintro e w1 ⟨rfl, hb1⟩
      rw [hXz]
      obtain ⟨w2, h2, k2, b2'⟩ := boxed w1 X
      have hb2 := HB.out.2.trans ((hb1.trans (b2'.mono hb1.size)).mono HB.out.2.size)
      have hw2 := HB.out.1.keep ((hb1.trans (b2'.mono hb1.size)).block _ HB.out.1.lt)
      obtain ⟨m, hm⟩ : ∃ m, size - 64 * k = m := ⟨_, rfl⟩
      rw [hm] at hgs
      have hs1 : ∀ v, (Instr.slice 26 (.slice (some ⟨w.heap.size, 0, none⟩) size size) (some (.int .i64 ((k : Int) * 64))) none none).run Tryd.prog v = .ok (.slice (some ⟨w.heap.size, 64 * k, none⟩) m m) v := by
        intro v
        have := Sh.slice_from (a := some ⟨w.heap.size, 0, none⟩) (m := size) (c := size) (j := 64 * k) (by omega) v
        rw [if_neg (by omega), hm] at this
        rw [show (k : Int) * 64 = ((64 * k : Nat) : Int) by omega, this]
        simp [Addr.add]
        omega
      have e0 : IntKind.i64.wrap ((k : Int) * 64) = (k : Int) * 64 := IntWalk.i64_in _ (by omega)
      have hs2 := slice_all (g := w1.heap.size) (o := 0)
      have hsrc : ∀ i v, (nums (X.take m))[i]? = some v → w2.drew.cell? ((⟨w1.heap.size, 0, none⟩ : Addr).add i) = some v := by
        intro i v hv
        rw [Addr.add_lit]
        show w2.cell? _ = _
        rw [k2.cell, List.getElem?_toArray, ← hv, nums_take, List.getElem?_take]
        have hi : i < (X.take m).length := by have := (List.getElem?_eq_some_iff.1 hv).1; rwa [nums_len] at this
        rw [List.length_take] at hi
        rw [if_pos (by omega), Nat.zero_add]
      have hgl := gk_len (area C fr size) k
      have hal := area_len (size := size) (fr := fr) hng.1 (by omega)
      have HL : Hid ((nums (X.take m)).length = Nat.min 64 m ∧ 64 * k + (nums (X.take m)).length ≤ (nums (gk (area C fr size) k)).toArray.size) := Lib.hid ⟨by rw [nums_len, List.length_take, hrd.1]; exact Nat.min_comm _ _, by rw [nums_len, List.length_take, List.size_toArray, nums_len, hgl, hal]; omega⟩
      have hE : ((nums (gk (area C fr size) k)).toArray.toList.take (64 * k) ++ (nums (X.take m) ++ (nums (gk (area C fr size) k)).toArray.toList.drop (64 * k + (nums (X.take m)).length))).toArray = (nums (gk (area C fr size) (k + 1))).toArray := by
        rw [← hgs]
        exact nums_put _ _ _
      have hw3 : Whole (w2.drew.setRow w.heap.size (nums (gk (area C fr size) (k + 1))).toArray) w.heap.size 5 (nums (gk (area C fr size) (k + 1))).toArray := Whole.row (w := w2.drew) hw2 _
      have hb3 : Below w.heap.size w (w2.drew.setRow w.heap.size (nums (gk (area C fr size) (k + 1))).toArray) := below_row (w := w2.drew) ⟨hb2.os, hb2.tape, hb2.output, hb2.size, hb2.block⟩ (Nat.le_refl _) _
      obtain ⟨w3, h3⟩ : ∃ w3, w2.drew.setRow w.heap.size (nums (gk (area C fr size) (k + 1))).toArray = w3 := ⟨_, rfl⟩
      rw [h3] at hw3 hb3
      have HN := Lib.hid (And.intro hw2 (And.intro hsrc (And.intro hE (And.intro h3 (And.intro hw3 hb3)))))
      have H2 := Lib.hid (And.intro h2 hrd.1)
      have hzb := zero_b
      clear hw2 hsrc hE h3 hw3 hb3 h2 k2 b2' hb2 hgs hbk hrd hX hXz hb1 hgl hal hng hdn hdk0 hm HB
      go_wp2_with (first | ((with_reducible show wpList _ _ _ ((⟨_, Op.store 32 _ _, _, _, _, _⟩ : Oper) :: _) _ _); refine wpList_store_row rfl 32 (.tmp 12) (.tmp 33) rfl w1.heap.size (nums X).toArray rfl rfl 32 zb (Whole.new w1 _ _) (info_bn H2.out.2) (size_bn H2.out.2) (all_nums _) ?_; rw [H2.out.1]) | fail)
      go_still_tail 5, (by kernel_rfl)
      change wpList _ _ _ _ _ w2.drew
      refine wpList_copy_own rfl (.tmp 41) (.tmp 42) 26 26 rfl 5 Tryd.underlying26 infou8 w.heap.size (64 * k) m m ⟨w1.heap.size, 0, none⟩ 64 64 rfl rfl (nums (gk (area C fr size) k)).toArray 5 HN.out.1 (nums (X.take m)) HL.out.1 HN.out.2.1 HL.out.2 (nums_one _) ?_
      rw [HN.out.2.2.1, HN.out.2.2.2.1]
      clear hs1 hs2 hzb
      go_wp2
      go_roundw
      case rel => exact ⟨k + 1, by omega, by go_num, Lib.hid ⟨HN.out.2.2.2.2.1, HN.out.2.2.2.2.2⟩⟩
      case measure => simp [intOf]; omega
    · obtain rfl : k = K := by omega
      have c0 : ¬ (k : Int) < (k : Int) := by omega
      have h64 : ¬ 64 * k < size := fun h => hlt ((HK.out k).2 h)
      go_wp2
      go_ret2
      obtain ⟨hdk0, hdn, hng, hfr, hsz⟩ := HD.out
      have hal := area_len (size := size) (fr := fr) hng.1 (by omega)
      have hw := HB.out.1
      rw [gk_end (by omega)] at hw
      exact ⟨_, rfl, hw, Nat.le_refl _, HB.out.2⟩
end Go.Proofs.YtjpgepodkeccmaaDoor
