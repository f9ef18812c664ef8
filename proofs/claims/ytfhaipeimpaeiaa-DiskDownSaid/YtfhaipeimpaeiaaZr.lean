/-
  The walk of DiskDown.
-/
import Derived.Test.YtfhaipeimpaeiaaZp
import Derived.Deep.Cut
import Derived.Deep.CutRange
import Derived.Deep.CutBlock
import Derived.Deep.QuietTactic
import Derived.BigQuiet
namespace Go.Proofs.Ytfhaipeimpaeiaa
open Go.RowKit
set_option linter.unusedVariables false
set_option linter.unusedSimpArgs false
theorem blk_zeros {n k : Nat} (h : k < n) : Dm.blk (zeros (64 * n)) k = zeros 64 := by
  apply List.ext_getElem?
  intro i
  rw [Dm.blk_get]
  unfold zeros
  split
  · rw [List.getElem?_replicate, List.getElem?_replicate, if_pos (by omega), if_pos (by omega)]
  · rw [List.getElem?_replicate, if_neg (by omega)]
/-- How many bytes of the one block last. -/
def lastsOf (g : Bool) (fs : List Int) : Nat := if g then (match fs with | [] => 0 | f :: _ => Dm.many f) else 0
theorem lasts_le (g : Bool) (fs : List Int) : lastsOf g fs ≤ 64 := by
  unfold lastsOf
  split
  · split
    · omega
    · exact Dm.many_le _
  · omega
theorem one_read {z : Int} {l0 fs : List Int} {g : Bool} (hl : l0.length = 64) (hg : decide (0 ≤ z ∧ z < 20) = g) :
    rdz (Dm.start (Dm.crash (wrz (fresh 20) 20 z l0) fs)) 20 z = l0.take (lastsOf g fs) ++ (zeros 64).drop (lastsOf g fs) := by
  have hb : ∀ a : Dm.A, a.down = false → bad a 20 z = if z < 0 ∨ 20 ≤ z then 61 else 0 := fun a h => by unfold bad; rw [h]; rfl
  have h1 : bad (Dm.start (Dm.crash (wrz (fresh 20) 20 z l0) fs)) 20 z = if z < 0 ∨ 20 ≤ z then 61 else 0 := hb _ rfl
  cases g with
  | false =>
    have := of_decide_eq_false hg
    rw [rdz_none (by rw [h1, if_pos (by omega)]; omega)]
    show z64 = l0.take 0 ++ (zeros 64).drop 0
    rfl
  | true =>
    have hz := of_decide_eq_true hg
    obtain ⟨k, rfl⟩ := Int.eq_ofNat_of_zero_le hz.1
    have h3 : bad (Dm.start (Dm.crash (wrz (fresh 20) 20 (k : Int) l0) fs)) 20 (k : Int) = 0 := by rw [h1, if_neg (by omega)]
    unfold rdz
    rw [if_pos h3]
    have h2 : bad (fresh 20) 20 (k : Int) = 0 := by rw [hb _ rfl, if_neg (by omega)]
    have e : wrz (fresh 20) 20 (k : Int) l0 = { last := zeros (64 * 20), fresh := [(k, l0)], down := false } := by unfold wrz; rw [if_pos h2]; rfl
    rw [e]
    show Dm.blk (Dm.layAll (zeros (64 * 20)) ([(k, l0)].zip fs)) k = _
    cases fs with
    | nil =>
      show Dm.blk (zeros (64 * 20)) k = l0.take 0 ++ (zeros 64).drop 0
      rw [blk_zeros (by omega)]
      rfl
    | cons f r =>
      show Dm.blk (Dm.put (zeros (64 * 20)) (64 * k) (l0.take (Dm.many f))) k = l0.take (Dm.many f) ++ (zeros 64).drop (Dm.many f)
      have hm := Dm.many_le f
      have hlt : (l0.take (Dm.many f)).length = Dm.many f := by simp; omega
      rw [Dm.blk_put_part (n := 20) (zeros_len _) (by omega) (by omega), blk_zeros (by omega), hlt]
set_option maxHeartbeats 8000000 in
set_option maxRecDepth 100000 in
theorem down_walk (z : Int) (l0 : List Int) (fa : Option Addr) (fl fc : Nat) (fs : List Int) (ma : Option Addr) (ml mc : Nat) (ms : List Int) (w : World) (hz0 : -9223372036854775808 ≤ z) (hz1 : z ≤ 9223372036854775807) (h0 : l0.length = 64) (b0 : Byt l0)
    (hfs : Its w (· < w.heap.size) fa fl fs) (hfm : fl ≤ maxLen) (hf64 : Num64 fs) (hms : Its w (· < w.heap.size) ma ml ms) (hmm : ml ≤ maxLen) (hm64 : Num64 ms) :
    Calls Try.prog 9 #[.int .i64 z, .agg (nums l0).toArray, .slice fa fl fc, .slice ma ml mc] w fun e w' => e = .returned (.bool true) ∧ Below w.heap.size w w' := by
  have HL := Lib.hid (And.intro h0 (And.intro b0 (And.intro hfm hf64)))
  have k5 : Whole (w.alloc (.cells (nums l0).toArray 32)) w.heap.size 32 (nums l0).toArray := Whole.new w _ _
  have hb : Below w.heap.size w (w.alloc (.cells (nums l0).toArray 32)) := (Below.refl _ _).alloc (Nat.le_refl _) _
  obtain ⟨w0, hw0⟩ : ∃ w0, w.alloc (.cells (nums l0).toArray 32) = w0 := ⟨_, rfl⟩
  rw [hw0] at k5 hb
  have H0 := Lib.hid (And.intro k5 hb)
  have HI := Lib.hid hfs
  have HW := Lib.hid hw0
  clear h0 b0 hfs hfm hf64 hms hmm hm64 k5 hb hw0 hz0 hz1
  go_enter Try.func9, Try.ntmps9
  go_wp2_with fail
  rw [HW.out]
  refine awake_any.mono ?_
  rintro e w1 ⟨rfl, hb1⟩
  have H1 := Lib.hid (And.intro (H0.out.1.keep (hb1.block _ H0.out.1.lt)) (H0.out.2.trans (hb1.mono H0.out.2.size)))
  clear hb1 H0 HW
  go_wp2_with fail
  refine (new_ok (n := 20) (by omega)).mono ?_
  rintro e w2 ⟨p, bb, mb, rfl, hd2, hp, hbb, hmb, hb2⟩
  have hs1 := H1.out.2.size
  have h5lt := H1.out.1.lt
  have HP : Hid ((w.heap.size ≤ p ∧ w.heap.size ≤ bb ∧ w.heap.size ≤ mb) ∧ w.heap.size ∉ [p, bb, mb]) := Lib.hid ⟨⟨by omega, by omega, by omega⟩, by simp; omega⟩
  have H2 := Lib.hid (And.intro (H1.out.1.keep (hb2.block _ H1.out.1.lt)) (And.intro (H1.out.2.trans (hb2.mono H1.out.2.size)) hd2))
  clear hb2 hd2 hp hbb hmb hs1 h5lt H1
  go_wp2_with (first | ((with_reducible show wpList _ _ _ ((⟨_, Op.load 32 _, _, _, _, _⟩ : Oper) :: _) _ _); refine wpList_load_row rfl 32 (.tmp 5) rfl w.heap.size rfl 32 (nums l0).toArray (0, 0) _ H2.out.1 und_b rfl (info_bn HL.out.1) ?_) | fail)
  refine (write_z (z := z) (b := l0) H2.out.2.2 HL.out.1 HL.out.2.1).mono ?_
  rintro e w3 ⟨rfl, hd3, ho3⟩
  have H3 := Lib.hid (And.intro (H2.out.1.keep (ho3.block _ H2.out.1.lt HP.out.2)) (And.intro (ho3.after H2.out.2.1 HP.out.1) hd3))
  obtain ⟨E, hE⟩ : ∃ E, bad (fresh 20) 20 z = E := ⟨_, rfl⟩
  rw [hE]
  have HE := Lib.hid hE
  clear hd3 ho3 H2 hE
  go_wp2_with fail
  have hdn : (wrz (fresh 20) 20 z l0).down = false := by unfold wrz; split <;> rfl
  have hi3 : Its w3 (fun b => b ≠ p ∧ b ≠ bb ∧ b ≠ mb) fa fl fs := (HI.out.keep H3.out.2.1.size (fun b hb' _ => H3.out.2.1.block b hb')).weak (fun b _ hb' => by have := HP.out.1; omega)
  refine (crash_any H3.out.2.2 hdn hi3 HL.out.2.2.1).mono ?_
  rintro e w4 ⟨rfl, hd4, ho4⟩
  have H4 := Lib.hid (And.intro (H3.out.1.keep (ho4.block _ H3.out.1.lt HP.out.2)) (And.intro (ho4.after H3.out.2.1 HP.out.1) hd4))
  clear hdn hi3 hd4 ho4 H3
  go_wp2_with fail
  have e60 : bad (Dm.crash (wrz (fresh 20) 20 z l0) fs) 20 z = 60 := rfl
  refine (read_z (z := z) H4.out.2.2).mono ?_
  rintro e w5 ⟨rfl, hb5⟩
  rw [e60, rdz_none (by rw [e60]; omega)]
  obtain ⟨w6, h6, k6, b6⟩ := boxed w5 z64
  have HN5 : Hid (w5.heap.size ∉ [p, bb, mb]) := Lib.hid (by have h1 := H4.out.2.2.cells.lt; have h2 := H4.out.2.2.bytes.lt; have h3 := H4.out.2.2.map.lt; have h4 := hb5.size; simp; omega)
  have hb6 := hb5.trans (b6.mono hb5.size)
  have H6 := Lib.hid (And.intro (H4.out.1.keep (hb6.block _ H4.out.1.lt)) (And.intro (H4.out.2.1.trans (hb6.mono H4.out.2.1.size)) (And.intro (H4.out.2.2.old hb6) (And.intro k6 h6))))
  clear hb5 h6 k6 b6 hb6 H4
  have hzb := zero_b
  go_wp2_with (first | ((with_reducible show wpList _ _ _ ((⟨_, Op.store 32 _ _, _, _, _, _⟩ : Oper) :: _) _ _); refine wpList_store_row rfl 32 (.tmp 12) (.tmp 39) rfl w5.heap.size (nums z64).toArray rfl rfl 32 zb (Whole.new w5 _ _) (info_bn z64_len) (size_bn z64_len) (all_nums _) ?_; rw [H6.out.2.2.2.2]) | ((with_reducible show wpList _ _ _ ((⟨_, Op.load 32 _, _, _, _, _⟩ : Oper) :: _) _ _); refine wpList_load_row rfl 32 (.tmp 5) rfl w.heap.size rfl 32 (nums l0).toArray (0, 0) _ H6.out.1 und_b rfl (info_bn HL.out.1) ?_) | fail)
  refine (write_z (z := z) (b := l0) H6.out.2.2.1 HL.out.1 HL.out.2.1).mono ?_
  rintro e w7 ⟨rfl, hd7, ho7⟩
  have ew : wrz (Dm.crash (wrz (fresh 20) 20 z l0) fs) 20 z l0 = Dm.crash (wrz (fresh 20) 20 z l0) fs := by unfold wrz; rw [if_neg (by rw [show bad (Dm.crash (if bad (fresh 20) 20 z = 0 then Dm.write (fresh 20) z.toNat l0 else fresh 20) fs) 20 z = 60 from rfl]; omega)]
  rw [ew] at hd7
  rw [e60]
  have c2 : w7.cell? ⟨p, 2, none⟩ = some (.bool true) := hd7.c2
  have hg12 : Whole w7 w5.heap.size 32 (nums z64).toArray := H6.out.2.2.2.1.keep (ho7.block _ H6.out.2.2.2.1.lt HN5.out)
  have H7 := Lib.hid (And.intro (H6.out.1.keep (ho7.block _ H6.out.1.lt HP.out.2)) (And.intro (ho7.after H6.out.2.1 HP.out.1) (And.intro hd7 hg12)))
  clear hd7 ho7 ew hg12 H6
  have r1 : ∀ w, (binOp .eql 32 (.agg (nums z64).toArray) (.agg (nums z64).toArray)).run Try.prog w = .ok (.bool true) w := fun w => by rw [eql64 z64 z64 rfl rfl w, decide_eq_true rfl]
  go_wp2_with (first | ((with_reducible show wpList _ _ _ ((⟨_, Op.load 32 _, _, _, _, _⟩ : Oper) :: _) _ _); refine wpList_load_rowG (by rfl) 32 (.tmp 12) rfl w5.heap.size rfl 32 (nums z64).toArray (0, 0) _ H7.out.2.2.2 und_b rfl (info_bn z64_len) ?_) | ((with_reducible show wpList _ _ _ ((⟨_, Op.build 32 _, _, _, _, _⟩ : Oper) :: _) _ _); refine wpList_builtG (by rfl) #[] rfl [] rfl (nums z64).toArray built_z ?_) | (go_at_call 22; refine (flush_bad (ready_down c2) (by omega)).mono ?_; rintro e w8 ⟨rfl, rfl⟩) | (go_at_call 16; refine (down_any c2).mono ?_; rintro e w8 ⟨rfl, rfl⟩) | fail)
  refine (dirty_any H7.out.2.2.1).mono ?_
  rintro e w8 ⟨g0, rfl, hgw, hgl, hb8⟩
  have H8 := Lib.hid (And.intro (H7.out.1.keep (hb8.block _ H7.out.1.lt)) (And.intro (H7.out.2.1.trans (hb8.mono H7.out.2.1.size)) (H7.out.2.2.1.old hb8)))
  have el : (Dm.crash (wrz (fresh 20) 20 z l0) fs).fresh.length = 0 := rfl
  rw [el]
  have c28 : w8.cell? ⟨p, 2, none⟩ = some (.bool true) := H8.out.2.2.c2
  clear hgw hgl hb8 H7 c2 el r1
  go_wp2_with (first | (go_at_call 23; refine (crash_bad (ready_down c28) (by omega)).mono ?_; rintro e w9 ⟨rfl, rfl⟩) | fail)
  refine (start_any H8.out.2.2).mono ?_
  rintro e w9 ⟨rfl, hd9, hg9, hs9⟩
  have ho9 : Only [p, bb, mb] w8 w9 := Only.of_grown hg9 (by simp)
  have H9 := Lib.hid (And.intro (H8.out.1.keep (ho9.block _ H8.out.1.lt HP.out.2)) (And.intro (ho9.after H8.out.2.1 HP.out.1) hd9))
  clear hd9 hg9 hs9 ho9 H8 c28
  go_wp2_with fail
  refine (read_z (z := z) H9.out.2.2).mono ?_
  rintro e w10 ⟨rfl, hb10⟩
  obtain ⟨g, hg⟩ : ∃ g : Bool, decide (0 ≤ z ∧ z < 20) = g := ⟨_, rfl⟩
  have hbd : bad (Dm.start (Dm.crash (wrz (fresh 20) 20 z l0) fs)) 20 z = if z < 0 ∨ 20 ≤ z then 61 else 0 := rfl
  obtain ⟨F, hF⟩ : ∃ F, (if z < 0 ∨ 20 ≤ z then (61 : Int) else 0) = F := ⟨_, rfl⟩
  rw [hbd, hF, one_read HL.out.1 hg]
  obtain ⟨R, hR⟩ : ∃ R, l0.take (lastsOf g fs) ++ (zeros 64).drop (lastsOf g fs) = R := ⟨_, rfl⟩
  rw [hR]
  have hRl : R.length = 64 := by rw [← hR]; have := lasts_le g fs; simp [zeros_len, HL.out.1]; omega
  obtain ⟨w11, h11, k11, b11⟩ := boxed w10 R
  have hb11 := hb10.trans (b11.mono hb10.size)
  have H11 := Lib.hid (And.intro (H9.out.1.keep (hb11.block _ H9.out.1.lt)) (And.intro (H9.out.2.1.trans (hb11.mono H9.out.2.1.size)) (And.intro (H9.out.2.2.old hb11) (And.intro k11 (And.intro h11 hRl)))))
  have HG := Lib.hid hg
  have HF := Lib.hid hF
  have HR := Lib.hid hR
  clear hb10 h11 k11 b11 hb11 hg hbd hF hR hRl H9
  go_upto_region 14 with (first | ((with_reducible show wpList _ _ _ ((⟨_, Op.store 32 _ _, _, _, _, _⟩ : Oper) :: _) _ _); refine wpList_store_row rfl 32 (.tmp 15) (.tmp 79) rfl w10.heap.size (nums R).toArray rfl rfl 32 zb (Whole.new w10 _ _) (info_bn H11.out.2.2.2.2.2) (size_bn H11.out.2.2.2.2.2) (all_nums _) ?_; rw [H11.out.2.2.2.2.1]) | fail)
  clear hzb
  go_cut [17] from 81 (fun v wr => v = .bool g ∧ wr = w11)
  case first =>
    by_cases q0 : 0 ≤ z
    · by_cases q1 : z < 20
      · have hgt : g = true := by rw [← HG.out]; simp [q0, q1]
        go_wp2
        go_meet
        case rel => exact ⟨by rw [hgt], rfl⟩
      · have hgt : g = false := by rw [← HG.out]; simp [q1]
        have q2 : 20 ≤ z := by omega
        go_wp2
        go_meet
        case rel => exact ⟨by rw [hgt], rfl⟩
    · have hgt : g = false := by rw [← HG.out]; simp [q0]
      have q2 : z < 0 := by omega
      go_wp2
      go_meet
      case rel => exact ⟨by rw [hgt], rfl⟩
  case rest =>
  obtain ⟨rfl, rfl⟩ := hcut
  obtain ⟨M, hM⟩ : ∃ M, lastsOf g fs = M := ⟨_, rfl⟩
  have hM64 : M ≤ 64 := by rw [← hM]; exact lasts_le g fs
  have HM := Lib.hid hM
  have HI11 : Hid (Its wc (· < w.heap.size) fa fl fs) := Lib.hid (HI.out.keep H11.out.2.1.size (fun b hb' _ => H11.out.2.1.block b hb'))
  clear hM HI
  have H12 : Hid (Whole wc w.heap.size 32 (nums l0).toArray ∧ Whole wc w10.heap.size 32 (nums R).toArray ∧ Below w.heap.size w wc ∧ Dk wc p bb mb (Dm.start (Dm.crash (wrz (fresh 20) 20 z l0) fs)) 20 ∧ Its wc (· < w.heap.size) fa fl fs) := Lib.hid ⟨H11.out.1, H11.out.2.2.2.1, H11.out.2.1, H11.out.2.2.1, HI11.out⟩
  clear HI11
  go_upto_block 0 with (fail)
  go_cut [17, 18] from 87 (fun v17 v wr => v17 = .bool g ∧ v = .int .i64 (M : Int) ∧ Hid (Whole wr w.heap.size 32 (nums l0).toArray ∧ Whole wr w10.heap.size 32 (nums R).toArray ∧ Below w.heap.size w wr ∧ Dk wr p bb mb (Dm.start (Dm.crash (wrz (fresh 20) 20 z l0) fs)) 20 ∧ Its wr (· < w.heap.size) fa fl fs))
  case first =>
    go_wp2
    go_loopw [18] (fun v wr => ∃ k : Nat, k ≤ M ∧ v = .int .i64 (k : Int) ∧ Hid (Whole wr w.heap.size 32 (nums l0).toArray ∧ Whole wr w10.heap.size 32 (nums R).toArray ∧ Below w.heap.size w wr ∧ Dk wr p bb mb (Dm.start (Dm.crash (wrz (fresh 20) 20 z l0) fs)) 20 ∧ Its wr (· < w.heap.size) fa fl fs)) (fun v _ => 64 - (intOf v).toNat)
    case atStart => exact ⟨0, Nat.zero_le _, rfl, H12⟩
    case round =>
      clear H12
      obtain ⟨k, hk, rfl, HB⟩ := hrel
      by_cases hlt : k < M
      · have hgt : g = true := by
          cases g
          · have := HM.out; unfold lastsOf at this; simp at this; omega
          · rfl
        have hfh : ∃ f r, fs = f :: r := by
          cases fs with
          | nil => exfalso; have := HM.out; rw [hgt] at this; unfold lastsOf at this; simp at this; omega
          | cons f r => exact ⟨f, r, rfl⟩
        obtain ⟨f, r, hfr⟩ := hfh
        have hMf : Dm.many f = M := by have := HM.out; rw [hgt, hfr] at this; exact this
        obtain ⟨hil, hic⟩ := HB.out.2.2.2.2
        have hfl : 0 < fl := by rw [← hil, hfr]; simp
        obtain ⟨fb, fo, hfa, _, _, hfc⟩ := hic.resolve_left (by omega)
        have cf : wr.cell? ⟨fb, fo, none⟩ = some (.int .i64 f) := by have := hfc 0 hfl; rw [hfr] at this; exact this
        have HFA := Lib.hid (And.intro hfa (And.intro hgt hfr))
        have hfa' := hfa
        have q1 : (k : Int) < 64 := by omega
        have q2 : (0 : Int) < (fl : Int) := by omega
        have q3 : (k : Int) < f := by unfold Dm.many at hMf; omega
        obtain ⟨x, hx⟩ : ∃ x, l0.getD k 0 = x := ⟨_, rfl⟩
        have hx' : l0[k]? = some x := by rw [← hx, List.getElem?_eq_getElem (by rw [HL.out.1]; omega)]; simp [HL.out.1, show k < 64 by omega]
        have cA : wr.cell? ⟨w.heap.size, k, none⟩ = some (.int .u8 x) := (HB.out.1.cell k).trans (by rw [List.getElem?_toArray]; simp [nums, hx'])
        have cR : wr.cell? ⟨w10.heap.size, k, none⟩ = some (.int .u8 x) := (HB.out.2.1.cell k).trans (by
          rw [List.getElem?_toArray, ← HR.out, HM.out]
          simp only [nums, List.getElem?_map]
          rw [List.getElem?_append_left (by simp [HL.out.1]; omega), List.getElem?_take, if_pos hlt, hx']
          rfl)
        subst hfa'
        have HGT := Lib.hid hgt
        clear hil hic hfc hMf hx hx' hfr hfa
        rw [hgt]
        clear hgt
        go_wp2
        go_quiet (fail)
        go_wp2
        go_roundw
        case rel => exact ⟨k + 1, by omega, by go_num, Lib.hid ⟨HB.out.1, HB.out.2.1, below_drewN HB.out.2.2.1 _, HB.out.2.2.2.1.keep rfl rfl rfl, HB.out.2.2.2.2.keep (Nat.le_refl _) (fun _ _ _ => rfl)⟩⟩
        case measure => simp [intOf]; omega
      · have hkM : k = M := by omega
        subst hkM
        by_cases q1 : k = 64
        · have q2 : ¬ ((k : Int) < 64) := by omega
          clear q1
          go_wp2
          go_meet
          case rel => exact ⟨rfl, rfl, HB⟩
        · have q2 : (k : Int) < 64 := by omega
          clear q1
          by_cases q3 : fl = 0
          · have q4 : ¬ ((0 : Int) < (fl : Int)) := by omega
            clear q3
            go_wp2
            go_meet
            case rel => exact ⟨rfl, rfl, HB⟩
          · have q4 : (0 : Int) < (fl : Int) := by omega
            have q4' : 0 < fl := by omega
            clear q3
            obtain ⟨f, r, hfr⟩ : ∃ f r, fs = f :: r := by
              cases fs with
              | nil => exfalso; have := HB.out.2.2.2.2.1; simp at this; omega
              | cons f r => exact ⟨f, r, rfl⟩
            obtain ⟨fb, fo, hfa, _, _, hfc⟩ := HB.out.2.2.2.2.2.resolve_left (by omega)
            have cf : wr.cell? ⟨fb, fo, none⟩ = some (.int .i64 f) := by have := hfc 0 (by omega); rw [hfr] at this; exact this
            have hMg : g = true → Dm.many f = k := fun h => by have := HM.out; rw [h, hfr] at this; exact this
            have HMG := Lib.hid hMg
            clear hfc hfr hMg
            subst hfa
            by_cases q5 : (k : Int) < f
            · have hgf : g = false := by
                cases g
                · rfl
                · exfalso
                  have := HMG.out rfl
                  unfold Dm.many at this
                  omega
              have HGF := Lib.hid hgf
              rw [hgf]
              clear hgf
              go_wp2
              go_meet
              case rel => exact ⟨by rw [HGF.out], rfl, HB⟩
            · go_wp2
              go_meet
              case rel => exact ⟨rfl, rfl, HB⟩
  case rest =>
  obtain ⟨rfl, rfl, H13⟩ := hcut
  clear H12 H11
  go_wp2
  go_loopw [18] (fun v wr => ∃ k : Nat, M ≤ k ∧ k ≤ 64 ∧ v = .int .i64 (k : Int) ∧ Hid (Whole wr w10.heap.size 32 (nums R).toArray ∧ Below w.heap.size w wr ∧ Dk wr p bb mb (Dm.start (Dm.crash (wrz (fresh 20) 20 z l0) fs)) 20)) (fun v _ => 64 - (intOf v).toNat)
  case atStart => exact ⟨M, Nat.le_refl _, hM64, rfl, Lib.hid ⟨H13.out.2.1, H13.out.2.2.1, H13.out.2.2.2.1⟩⟩
  case round =>
    clear H13
    obtain ⟨k, hkM, hk, rfl, HB⟩ := hrel
    by_cases hlt : k < 64
    · have cR : wr.cell? ⟨w10.heap.size, k, none⟩ = some (.int .u8 0) := (HB.out.1.cell k).trans (by
        rw [List.getElem?_toArray, ← HR.out, HM.out]
        simp only [nums, List.getElem?_map]
        have hml : (l0.take M).length = M := by simp [HL.out.1]; omega
        rw [List.getElem?_append_right (by omega), hml, List.getElem?_drop, zeros, List.getElem?_replicate, if_pos (by omega)]
        rfl)
      have q1 : (k : Int) < 64 := by omega
      go_wp2
      go_roundw
      case rel => exact ⟨k + 1, by omega, by omega, by go_num, HB⟩
      case measure => simp [intOf]; omega
    · have q1 : ¬ ((k : Int) < 64) := by omega
      have c2 : wr.cell? ⟨p, 2, none⟩ = some (.bool false) := HB.out.2.2.c2
      clear hkM hk hlt hM64
      cases g
      · have hF : F = 61 := by
          rw [← HF.out, if_pos]
          have := of_decide_eq_false HG.out
          omega
        subst hF
        go_wp2_with (first | (go_at_call 16; refine (down_any c2).mono ?_; rintro e w12 ⟨rfl, rfl⟩) | fail)
        go_ret
        exact ⟨rfl, HB.out.2.1⟩
      · have hF : F = 0 := by
          rw [← HF.out, if_neg]
          have := of_decide_eq_true HG.out
          omega
        subst hF
        go_wp2_with (first | (go_at_call 16; refine (down_any c2).mono ?_; rintro e w12 ⟨rfl, rfl⟩) | fail)
        go_ret
        exact ⟨rfl, HB.out.2.1⟩
end Go.Proofs.Ytfhaipeimpaeiaa
