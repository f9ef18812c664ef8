/-
  The walk of Put.
-/
import Derived.Test.YtjpgepodkeccmaaDoorUe
import Derived.Test.YtjpgepodkeccmaaDoorSo
namespace Go.Proofs.YtjpgepodkeccmaaDoor
open Go.RowKit
set_option linter.unusedVariables false
set_option linter.unusedSimpArgs false
set_option maxRecDepth 20000
theorem slice_blk {g o : Nat} (h : o ≤ 64) (w : World) : (Instr.sliceAt 32 (.pointer (some ⟨g, 0, none⟩)) (some (.int .i64 (o : Int))) none none).run Tryd.prog w = .ok (.slice (if 64 = o then some ⟨g, 0, none⟩ else some ⟨g, o, none⟩) (64 - o) (64 - o)) w := by
  have hb : (0 : Int) ≤ (o : Int) ∧ (o : Int) ≤ ((64 : Nat) : Int) := by omega
  simp only [Instr.sliceAt, Instr.sureAddr, Instr.sliceBounds, Instr.sliceBound, Sem.run_bind, Sem.run_pure, Result.andThen_ok, run_underlying und_b, asIntOf, if_pos hb, size_u8, Int.toNat_natCast, Nat.mul_one]
  by_cases e : 64 = o
  · rw [if_pos (by omega), if_pos e]
  · rw [if_neg (by omega), if_neg e]
    simp [Addr.add]
    omega
theorem only_grown {S : List Nat} {a b : World} {g : Nat} (h : Only S a b) (hg : a.heap.size ≤ g) {c : World} (k : b.grownBy c (some g)) : Only S a c :=
  ⟨k.os.trans h.os, k.tape.trans h.tape, k.output.trans h.output, Nat.le_trans h.size k.size, fun i hi hn => (k.block i (Nat.lt_of_lt_of_le hi h.size) (fun e => by injection e with e; omega)).trans (h.block i hi hn)⟩
theorem txt_only {w w' : World} {S : Nat → Prop} {a : Option Addr} {n c p bb mb : Nat} {l : List Int} (h : Txt w S a n c l) (hS : ∀ x, S x → x ≠ p ∧ x ≠ bb ∧ x ≠ mb) (ho : Only [p, bb, mb] w w') : Txt w' S a n c l :=
  h.keep ho.size fun b hb hs => ho.block b hb (by have := hS b hs; simp; omega)
/-- What holds behind k blocks. -/
def PutAt (w : World) (p bb mb n : Nat) (A : Dm.A) (S : Nat → Prop) (first at_ o len k : Nat) (b : List Int) (a' : Option Addr) (c' : Nat) (wr : World) : Prop :=
  ∃ Ak, Dk wr p bb mb Ak n ∧ Ak.down = false ∧ Dm.now Ak = Dm.put (Dm.now A) at_ (b.take (Dm.wk o len k)) ∧ Txt wr S a' (len - Dm.wk o len k) c' (b.drop (Dm.wk o len k)) ∧ Only [p, bb, mb] w wr
set_option maxHeartbeats 4000000 in
theorem put_ok {p bb mb n fr room at_ len c : Nat} {A : Dm.A} {S : Nat → Prop} {a : Option Addr} {b : List Int} {w : World} (h : Dk w p bb mb A n) (hd : A.down = false) (hfr : fr + room ≤ n) (hat : at_ + len ≤ 64 * room) (ht : Txt w S a len c b) (hS : ∀ x, S x → x ≠ p ∧ x ≠ bb ∧ x ≠ mb) :
    Calls Tryd.prog 15 #[.pointer (some ⟨p, 0, none⟩), .int .i64 (fr : Int), .int .i64 (room : Int), .int .i64 (at_ : Int), .slice a len c] w fun e w' => e = .returned (.int .i64 0) ∧ ∃ A', Dk w' p bb mb A' n ∧ A'.down = false ∧ Dm.now A' = Dm.put (Dm.now A) (64 * fr + at_) b ∧ Only [p, bb, mb] w w' := by
  have hsm := h.ok.small
  have hbl : b.length = len := ht.1
  have hB : Byt b := ht.2.2.1
  have hfit : fitsB n fr room at_ len = true := by unfold fitsB hasB; simp; omega
  have HF := Lib.hid (fits_any (fr := fr) (room := room) (at_ := at_) (many := len) h ⟨by omega, by omega⟩ ⟨by omega, by omega⟩ ⟨by omega, by omega⟩)
  rw [hfit] at HF
  have HD := Lib.hid (And.intro h (And.intro hd (And.intro ht (And.intro hB hbl))))
  have hnl := (Dm.now_get h.ok).1
  have HS := Lib.hid hS
  clear h ht hB hfit hd hS
  go_enter Tryd.func15, Tryd.ntmps15
  by_cases h0 : len = 0
  · subst h0
    have hb0 : b = [] := List.eq_nil_of_length_eq_zero hbl
    go_wp2_with (go_at_call 26; refine HF.out.mono ?_; rintro e w' ⟨rfl, rfl⟩)
    go_ret
    refine ⟨rfl, A, HD.out.1, HD.out.2.1, ?_, Only.refl _ _⟩
    rw [hb0, Dm.put_nil _ _ (by omega)]
  · obtain ⟨q, hq⟩ : ∃ q, at_ / 64 = q := ⟨_, rfl⟩
    obtain ⟨o, ho⟩ : ∃ o, at_ % 64 = o := ⟨_, rfl⟩
    have q1 : ((at_ : Int)).tdiv 64 = (q : Int) := by rw [← hq]; rfl
    have q2 : ((at_ : Int)).tmod 64 = (o : Int) := by rw [← ho]; rfl
    have q3 : (at_ : Int) / 64 = (q : Int) := by omega
    have q4 : (at_ : Int) % 64 = (o : Int) := by omega
    have q5 : ((len : Int) == 0) = false := by simp; omega
    obtain ⟨K, hK⟩ : ∃ K, (o + len + 63) / 64 = K := ⟨_, rfl⟩
    have HI := Lib.hid fun (w : World) => iblocks_any (w := w) (z := (o : Int) + (len : Int)) ⟨by omega, by omega⟩
    have eK : blks ((o : Int) + (len : Int)) = K := by unfold blks; omega
    rw [eK] at HI
    have hfk : fr + q + K ≤ n := by omega
    have hpl : 64 * (fr + q) + o = 64 * fr + at_ := by omega
    have HQ := Lib.hid (And.intro hpl (And.intro hfk (And.intro (show o < 64 by omega) (And.intro hbl (And.intro hsm (And.intro hnl hat))))))
    have HK : Hid (∀ k, k < K ↔ 64 * k < o + len) := Lib.hid fun k => by omega
    have hl : 0 < len := by omega
    have H0 : Hid (PutAt w p bb mb n A S (fr + q) (64 * fr + at_) o len 0 b a c w) := Lib.hid ⟨A, HD.out.1, HD.out.2.1, by rw [Dm.wk_zero, List.take_zero, Dm.put_nil _ _ (by omega)], by rw [Dm.wk_zero]; simpa using HD.out.2.2.1, Only.refl _ _⟩
    have b1 : fr ≤ 4096 := by omega
    have b2 : q ≤ 4096 := by omega
    have b3 : len ≤ 262144 := by omega
    have b4 : o < 64 := by omega
    have b5 : at_ ≤ 262144 := by omega
    have b6 : K ≤ 8192 := by omega
    clear hq ho hpl hfk hbl hsm hnl h0 eK hat hK
    go_wp2_with (first | (go_at_call 26; refine HF.out.mono ?_; rintro e w' ⟨rfl, rfl⟩) | (go_at_call 11; refine (HI.out _).mono ?_; rintro e w' ⟨rfl, rfl⟩) | fail)
    go_loopw [12, 13, 41] (fun v12 v13 v41 wr => ∃ k a' c', k ≤ K ∧ v12 = .int .i64 ((Dm.ah o k : Nat) : Int) ∧ v13 = .slice a' (len - Dm.wk o len k) c' ∧ v41 = .int .i64 ((k : Nat) : Int) ∧ Hid (PutAt w p bb mb n A S (fr + q) (64 * fr + at_) o len k b a' c' wr)) (fun _ _ i _ => K - (intOf i).toNat)
    case atStart => exact ⟨0, a, c, Nat.zero_le _, rfl, by rw [Dm.wk_zero]; rfl, rfl, H0⟩
    case round =>
      clear H0
      obtain ⟨k, a', c', hk, rfl, rfl, rfl, HB⟩ := hrel
      by_cases hlt : k < K
      · have c0 : (k : Int) < (K : Int) := by omega
        have h64 := (HK.out k).1 hlt
        obtain ⟨hpl, hfk, ho64, hbl, hsm, hnl, hat⟩ := HQ.out
        obtain ⟨Ak, hdk, hdn, hnow, htx, hon⟩ := HB.out
        have hr64 := Dm.ah_lt ho64 k
        have hst := Dm.wk_step (len := len) ho64 h64
        have hwl := Dm.wk_le o len k
        have hul : Dm.wk o len k < len := by unfold Dm.wk; split <;> omega
        have hpp := Dm.wk_place (len := len) ho64 h64
        have hok := Dm.pblk_ok (a := Ak) (n := n) (j := fr + q + k) (o := Dm.ah o k) (r := b.drop (Dm.wk o len k)) hdk.ok (by omega) (by omega) (byt_drop HD.out.2.2.2.1 _)
        have hps := Dm.put_step (first := fr + q) (at_ := 64 * fr + at_) (k := k) (C := Dm.now A) (b := b) hdk.ok o ho64 hpl (by rw [hbl]; exact h64) (by omega) (by rw [hbl]; omega) hnl HD.out.2.2.2.1 (by rw [hbl]; exact hnow)
        rw [hbl] at hps
        have hrd := Dm.read_len hdk.ok (m := fr + q + k) (by omega)
        obtain ⟨r, hr⟩ : ∃ r, Dm.ah o k = r := ⟨_, rfl⟩
        obtain ⟨u, hu⟩ : ∃ u, Dm.wk o len k = u := ⟨_, rfl⟩
        rw [hr] at hr64 hst hok hps hpp
        rw [hu] at hst hwl hok hps htx hnow hpp hul
        rw [hr, hu]
        obtain ⟨m, hm⟩ : ∃ m, len - u = m := ⟨_, rfl⟩
        rw [hm] at htx hst hps
        rw [hm]
        obtain ⟨X, hX⟩ : ∃ X, Dm.read Ak (fr + q + k) = X := ⟨_, rfl⟩
        have hXz : Dm.read Ak ((fr : Int) + (q : Int) + (k : Int)).toNat = X := by rw [← hX, show ((fr : Int) + (q : Int) + (k : Int)).toNat = fr + q + k by omega]
        rw [hX] at hrd
        have hm0 : 0 < m := by omega
        obtain ⟨j, hj⟩ : ∃ j, min (64 - r) m = j := ⟨_, rfl⟩
        rw [hj] at hst hps
        have htl := htx.1
        have htb := htx.2.2.1
        have hcj : j ≤ c' := by have := htx.2.1; omega
        have hjm : j ≤ m := by omega
        have hj2 : r + j ≤ 64 := by omega
        have hj0 : 0 < j := by omega
        obtain ⟨bS, off, rfl, hbS, hblt, hrg⟩ := htx.cells hm0
        go_wp2_with fail
        refine (read_at (z := (fr : Int) + (q : Int) + (k : Int)) hdk hdn (by omega) (by omega)).mono ?_
        rintro e w1 ⟨rfl, hb1⟩
        rw [hXz]
        obtain ⟨w2, h2, k2, b2'⟩ := boxed w1 X
        have htx2 : Txt w2 S (some ⟨bS, off, none⟩) m c' (b.drop u) := txt_only htx HS.out (Only.of_below (hb1.trans (b2'.mono hb1.size)))
        have hg1 : wr.heap.size ≤ w1.heap.size := hb1.size
        have hrg2 : w2.rangeAt bS off (nums (b.drop u)) := by
          obtain ⟨b', o', e, _, _, h⟩ := htx2.cells hm0
          injection e with e
          injection e with e1 e2
          subst e1 e2
          exact h
        have H2 := Lib.hid (And.intro h2 hrd.1)
        obtain ⟨x, hx⟩ : ∃ x, (b.drop u).take j = x := ⟨_, rfl⟩
        have hxl : x.length = j := by rw [← hx, List.length_take]; omega
        have hsrc : ∀ i v, (nums x)[i]? = some v → w2.cell? ((⟨bS, off, none⟩ : Addr).add i) = some v := by
          intro i v hv
          rw [Addr.add_lit]
          refine hrg2 i v ?_
          have hi : i < x.length := by have := (List.getElem?_eq_some_iff.1 hv).1; rwa [nums_len] at this
          rw [← hx, nums_take, List.getElem?_take, if_pos (by omega)] at hv
          exact hv
        have hpb : Dm.pblk Ak (fr + q + k) r (b.drop u) = Dm.put X r x := by
          unfold Dm.pblk
          rw [hX, ← hx]
          congr 1
          rw [← hj, List.take_eq_take_iff]
          omega
        rw [hpb] at hok hps
        have hE : ((nums X).toArray.toList.take r ++ (nums x ++ (nums X).toArray.toList.drop (r + (nums x).length))).toArray = (nums (Dm.put X r x)).toArray := nums_put X x r
        have hb3 := below_row b2' (Nat.le_refl _) (nums (Dm.put X r x)).toArray
        have k3 := k2.row (nums (Dm.put X r x)).toArray
        obtain ⟨w3, h3⟩ : ∃ w3, w2.setRow w1.heap.size (nums (Dm.put X r x)).toArray = w3 := ⟨_, rfl⟩
        rw [h3] at hb3 k3
        have hdk3 := (hdk.old hb1).old hb3
        have hon3 : Only [p, bb, mb] w w3 := hon.trans (Only.of_below (hb1.trans (hb3.mono hb1.size)))
        have htx3 : Txt w3 S (some ⟨bS, off, none⟩) m c' (b.drop u) := txt_only htx HS.out (Only.of_below (hb1.trans (hb3.mono hb1.size)))
        obtain ⟨a2, hsl, htd⟩ : ∃ A', (∀ w, (Instr.slice 26 (.slice (some ⟨bS, off, none⟩) m c') (some (.int .i64 (j : Int))) none none).run Tryd.prog w = .ok (.slice A' (m - j) (c' - j)) w) ∧ Hid (Txt w3 S A' (m - j) (c' - j) ((b.drop u).drop j)) := ⟨_, Sh.slice_from hjm, Lib.hid (htx3.drop j hjm)⟩
        obtain ⟨Y, hY⟩ : ∃ Y, Dm.put X r x = Y := ⟨_, rfl⟩
        rw [hY] at hok hps k3 hE h3
        have HC := Lib.hid (And.intro k2 (And.intro hsrc hxl))
        have H3 := Lib.hid (And.intro hE h3)
        have HF := Lib.hid (And.intro k3 (And.intro hdk3 (And.intro hon3 (And.intro hok (And.intro hps (And.intro hst hdn))))))
        have hs0 := slice_blk (g := w1.heap.size) (o := r) (by omega)
        rw [if_neg (show ¬ 64 = r by omega)] at hs0
        have HL : Hid ((nums x).length = Nat.min m (64 - r) ∧ r + (nums x).length ≤ (nums X).toArray.size) := Lib.hid ⟨by rw [nums_len, hxl, ← hj]; exact Nat.min_comm _ _, by rw [nums_len, hxl, List.size_toArray, nums_len, hrd.1]; exact hj2⟩
        have HM := Lib.hid hm
        clear h2 k2 b2' hdk3 hon3 htx3 htx2 hsrc hok hps hst hdn hrd hrg2 hrg hpb hnow htx hdk hon hX hXz hu hr htl htb hwl hul hpp hb1 hb3 HB hx hY hE h3 k3 hj hm
        have hzb := zero_b
        go_wp2_with (first | ((with_reducible show wpList _ _ _ ((⟨_, Op.store 32 _ _, _, _, _, _⟩ : Oper) :: _) _ _); refine wpList_store_row rfl 32 (.tmp 15) (.tmp 50) rfl w1.heap.size (nums X).toArray rfl rfl 32 zb (Whole.new w1 _ _) (info_bn H2.out.2) (size_bn H2.out.2) (all_nums _) ?_; rw [H2.out.1]) | ((with_reducible show wpList _ _ _ ((⟨some 59, _, _, _, _, _⟩ : Oper) :: _) _ _); refine wpList_copy_own rfl (.tmp 57) (.tmp 58) 26 26 rfl 5 Tryd.underlying26 infou8 w1.heap.size r (64 - r) (64 - r) ⟨bS, off, none⟩ m c' rfl rfl (nums X).toArray 32 HC.out.1 (nums x) HL.out.1 HC.out.2.1 HL.out.2 (nums_one x) ?_; rw [H3.out.1, H3.out.2, nums_len, HC.out.2.2]) | ((with_reducible show wpList _ _ _ ((⟨_, Op.load 32 _, _, _, _, _⟩ : Oper) :: _) _ _); refine wpList_load_row rfl 32 (.tmp 15) rfl w1.heap.size rfl 32 (nums Y).toArray (0, 0) _ HF.out.1 und_b rfl (info_bn HF.out.2.2.2.1.1) ?_) | fail)
        refine (write_at (b := Y) HF.out.2.1 HF.out.2.2.2.2.2.2 (by omega) (by omega) HF.out.2.2.2.1.1 HF.out.2.2.2.1.2).mono ?_
        rintro e w4 ⟨rfl, hdk4, hon4⟩
        rw [show ((fr : Int) + (q : Int) + (k : Int)).toNat = fr + q + k by omega] at hdk4
        have H4 : Hid (PutAt w p bb mb n A S (fr + q) (64 * fr + at_) o len (k + 1) b a2 (c' - j) w4) := Lib.hid ⟨_, hdk4, HF.out.2.2.2.2.2.2, HF.out.2.2.2.2.1.1, by
          have := txt_only htd.out HS.out hon4
          rw [HF.out.2.2.2.2.1.2] at this
          rw [show len - Dm.wk o len (k + 1) = m - j by rw [HF.out.2.2.2.2.2.1]; have := HM.out; omega]
          exact this, HF.out.2.2.1.trans hon4⟩
        have H5 : Hid (len - Dm.wk o len (k + 1) = m - j) := Lib.hid (by rw [HF.out.2.2.2.2.2.1]; have := HM.out; omega)
        clear hdk4 hon4 hsl hs0 hzb hpl hfk ho64 hbl hsm hnl hat
        go_wp2
        go_roundw
        case rel => exact ⟨k + 1, a2, c' - j, by omega, rfl, by rw [H5.out], by go_num, H4⟩
        case measure => simp [intOf]; omega
      · obtain rfl : k = K := by omega
        have c0 : ¬ (k : Int) < (k : Int) := by omega
        have h64 : ¬ 64 * k < o + len := fun h => hlt ((HK.out k).2 h)
        go_wp2
        go_ret
        obtain ⟨hpl, hfk, ho64, hbl, hsm, hnl, hat⟩ := HQ.out
        obtain ⟨Ak, hdk, hdn, hnow, htx, hon⟩ := HB.out
        refine ⟨rfl, Ak, hdk, hdn, ?_, hon⟩
        rw [hnow, Dm.wk_end ho64 hl (by omega), List.take_of_length_le (by omega)]
end Go.Proofs.YtjpgepodkeccmaaDoor
