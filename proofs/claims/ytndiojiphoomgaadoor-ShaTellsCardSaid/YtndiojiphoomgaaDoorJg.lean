/-
  The document's Code.
-/
import Derived.Test.YtndiojiphoomgaaDoorJf
set_option linter.unusedSimpArgs false
namespace Go.Proofs.YtndiojiphoomgaaDoor
open Go.RowKit
def rlen (l : List Int) : Nat := if 64 < l.length then 32 else l.length
theorem rkb_zero (l : List Int) (m : Nat) (h : rlen l ≤ m) (hm : m < 64) : (Sm.kb l).take (m + 1) = (Sm.kb l).take m ++ [0] := by
  have hl : m < (Sm.kb l).length := by rw [kb_len]; exact hm
  rw [List.take_succ_eq_append_getElem hl]
  congr 2
  have : (Sm.kb l)[m]? = some 0 := by
    unfold Sm.kb
    unfold rlen at h
    split
    · rename_i h64
      rw [if_pos h64] at h
      rw [List.getElem?_append_right (by rw [dig_len]; omega), dig_len, List.getElem?_replicate, if_pos (by omega)]
    · rename_i h64
      rw [if_neg h64] at h
      rw [List.getElem?_append_right (by omega), List.getElem?_replicate, if_pos (by omega)]
  rw [List.getElem?_eq_getElem hl] at this
  injection this
theorem rkb_start (l : List Int) : (Sm.kb l).take (rlen l) = if 64 < l.length then Sm.dig l else l := by
  unfold Sm.kb rlen
  split
  · rw [List.take_append_of_le_length (by rw [dig_len]; omega), List.take_of_length_le (by rw [dig_len]; omega)]
  · rw [List.take_left]
theorem own_keep {w w' : World} {base e size n : Nat} {v : Value} {xs : List Value} (h : w.ownsRow base e size v n xs) (hk : ∀ b, v.ownBlock = some b → w'.heap[b]? = w.heap[b]?) : w'.ownsRow base e size v n xs := by
  refine ⟨h.1, ?_⟩
  rcases h.2 with h | ⟨g, cap, cur, rfl, hb, hg, r⟩
  · exact Or.inl h
  · exact Or.inr ⟨g, cap, cur, rfl, hb, (hk g rfl).trans hg, r⟩
/-- Two rows of bytes of the call's own, in blocks of their own. -/
structure Pair (w : World) (E : Nat) (k j : Nat) (v u : Value) (xs ys : List Int) : Prop where
  one : w.ownsRow E 5 1 v k (nums xs)
  two : w.ownsRow E 5 1 u j (nums ys)
  apart : ∀ b, v.ownBlock = some b → u.ownBlock ≠ some b
theorem Pair.first {w w5 : World} {E k j : Nat} {v v' u : Value} {xs ys l : List Int} {m : Nat} (h : Pair w E k j v u xs ys) (hown : w5.ownsRow E 5 1 v' m (nums xs ++ nums l)) (hg : w.grownBy w5 v.ownBlock) (hat : v'.ownBlock = v.ownBlock ∨ v'.ownBlock = some w.heap.size) : Pair w5 E m j v' u (xs ++ l) ys := by
  refine ⟨by rw [nums_append]; exact hown, own_keep h.two fun b hb => ?_, fun b hb hu => ?_⟩
  · exact hg.block b (h.two.lt b hb).2 (fun e => h.apart b e.symm hb)
  · have hlt := (h.two.lt b hu).2
    rcases hat with e | e
    · exact h.apart b (by rw [← e]; exact hb) hu
    · rw [e] at hb
      injection hb with hb
      omega
theorem Pair.swap {w : World} {E k j : Nat} {v u : Value} {xs ys : List Int} (h : Pair w E k j v u xs ys) : Pair w E j k u v ys xs := ⟨h.two, h.one, fun b hb hv => h.apart b hv hb⟩
theorem Pair.below {w w5 : World} {E k j : Nat} {v u : Value} {xs ys : List Int} (h : Pair w E k j v u xs ys) (hb : Below w.heap.size w w5) : Pair w5 E k j v u xs ys :=
  ⟨own_keep h.one fun b e => hb.block b (h.one.lt b e).2, own_keep h.two fun b e => hb.block b (h.two.lt b e).2, h.apart⟩
theorem byt_one {y : Int} {l : List Int} (hy : 0 ≤ y ∧ y < 256) (h : Byt l) (k : Nat) : Byt [(((l.getD k 0).toNat ^^^ y.toNat : Nat) : Int)] := by
  have h1 := byt_getD h k
  have := xor8_lt (x := (l.getD k 0).toNat) (y := y.toNat) (by omega) (by omega)
  exact byt_cons (by omega) (by omega) byt_nil
theorem chg_snoc (y : Int) (b : List Int) (k : Nat) (hk : k < b.length) : Sm.chg y (b.take (k + 1)) = Sm.chg y (b.take k) ++ [(((b.getD k 0).toNat ^^^ y.toNat : Nat) : Int)] := by
  have e2 : b.take (k + 1) = b.take k ++ [b.getD k 0] := by
    rw [List.take_succ_eq_append_getElem hk]; simp [hk]
  rw [e2]
  simp [Sm.chg]
theorem rrow_txt {w : World} {base n : Nat} {q : Option Addr} {c : Nat} {l : List Int} (h : w.ownsRow base 5 1 (.slice q n c) n (nums l)) (hb : Byt l) : Txt w (base ≤ ·) q n c l := by
  obtain ⟨a, c', e, ht⟩ := Txt.own h hb
  injection e with e1 _ e3
  subst e1
  subst e3
  exact ht
set_option maxHeartbeats 4000000 in
theorem rcode_any {S S' : Nat → Prop} {a0 a1 : Option Addr} {n0 c0 n1 c1 : Nat} {l0 l1 : List Int} {w : World} (h : Txt w S a0 n0 c0 l0) (h' : Txt w S' a1 n1 c1 l1) (hn : n0 ≤ 800000) (hn' : n1 ≤ 800000) :
    Calls Tryd.prog 13 #[.slice a0 n0 c0, .slice a1 n1 c1] w fun e w' => e = .returned (.agg (nums (Sm.code l0 l1)).toArray) ∧ Below w.heap.size w w' := by
  obtain ⟨i0, hi0, hz0, hz1, hz2⟩ := info_parts u8_info
  have HI := Lib.hid (And.intro hi0 (And.intro hz0 (And.intro hz1 hz2)))
  clear hi0 hz0 hz1 hz2
  have H0 := Lib.hid h.old
  have H1 := Lib.hid h'.old
  clear h h'
  go_enter Tryd.func13, Tryd.ntmps13
  go_upto_region 1 with (fail)
  rw [zero32z]
  have k0 := Whole.new w 24 (nums (zs 32)).toArray
  have b0 := below_alloc w (.cells (nums (zs 32)).toArray 24)
  generalize hw0 : w.alloc (.cells (nums (zs 32)).toArray 24) = w0 at *
  have hs0 : w.heap.size + 1 = w0.heap.size := by rw [← hw0]; simp
  have HT0 := Lib.hid (H0.out.below b0 (fun _ _ h => h))
  have HT1 := Lib.hid (H1.out.below b0 (fun _ _ h => h))
  clear hw0
  generalize hBe : w.heap.size = B at *
  have HBE := Lib.hid hBe
  have K0 := Lib.hid (And.intro k0 b0)
  have hD : B + 1 ≤ w0.heap.size := Nat.le_of_eq hs0
  clear hBe k0 b0 hs0
  go_upto_region 2 with (at_builtin; refine wpList_append_txt _ rfl (.tmp 11) (.tmp 12) 22 rfl (B + 1) 5 i0 (.int .u8 0) 1 Tryd.underlying22 HI.out.1 HI.out.2.1 HI.out.2.2.1 HI.out.2.2.2 rfl _ 0 [] rfl ?c1 (fun b => b < B) a0 n0 c0 l0 rfl ?c2 ?c3 ?c4 ?c5 ?_)
  case c1 => exact World.ownsRow_lit w0 #[] 0 hD (by unfold maxLen; omega) rfl
  case c2 => exact HT0.out.keep (by simp) fun b hb _ => Below.heap_alloc _ _ _ hb
  case c3 => unfold maxLen; omega
  case c4 => omega
  case c5 => simp; omega
  intro v' w2 hown hg _
  have HO := Lib.hid hown
  have HB2 : Hid (Below (B + 1) w0 w2) := Lib.hid (((Below.refl _ _).alloc hD _).grown hg (by simp; omega) (fun k hk => by simp [Value.ownBlock] at hk; omega))
  clear hown hg
  obtain ⟨q6, cap6, rfl⟩ : ∃ q cap, v' = .slice q n0 cap := row_form HO.out
  have s2 : B + 1 ≤ w2.heap.size := Nat.le_trans hD HB2.out.size
  go_upto_if 16 with (fail)
  go_cut [5] (fun v wr => ∃ m, rlen l0 ≤ m ∧ m ≤ 64 ∧ Hid (wr.ownsRow (B + 1) 5 1 v m (nums ((Sm.kb l0).take m)) ∧ Below (B + 1) w0 wr))
  case first =>
    by_cases hgt : 64 < n0
    · have e : Hid (rlen l0 = 32 ∧ (Sm.kb l0).take 32 = Sm.dig l0) := Lib.hid (by
        have hh : 64 < l0.length := by rw [H0.out.1]; exact hgt
        have h1 : rlen l0 = 32 := by unfold rlen; rw [if_pos hh]
        have h2 := rkb_start l0
        rw [h1, if_pos hh] at h2
        exact ⟨h1, h2⟩)
      have hd : decide ((64 : Int) < (n0 : Int)) = true := by simp; omega
      have HQ : Hid (Txt w2 ((B + 1) ≤ ·) q6 n0 cap6 l0) := Lib.hid (rrow_txt (by simpa using HO.out) H0.out.2.2.1)
      go_wp2_with fail
      refine (rsum_any HQ.out (by omega)).mono ?_
      rintro e w4 ⟨rfl, hb4⟩
      have HB4 : Hid (Below (B + 1) w0 w4) := Lib.hid (HB2.out.trans (hb4.mono (by omega)))
      have s4 : B + 1 ≤ w4.heap.size := Nat.le_trans s2 hb4.size
      have HDG := Lib.hid (dig_ok l0)
      clear hb4
      have hNa := all_nums (Sm.dig l0)
      have HNS := Lib.hid (row_size HDG.out)
      go_wp2_with (first
        | ((with_reducible show wpList _ _ _ ((⟨_, Op.store 24 _ _, _, _, _, _⟩ : Oper) :: _) _ _); refine wpList_store_row rfl _ (.tmp 6) (.tmp 18) rfl w4.heap.size _ rfl rfl 24 _ (Whole.new _ _ _) (by rw [HNS.out]; exact info32) (by rw [HNS.out]; rfl) hNa ?_)
        | (at_builtin; refine wpList_append_txt _ rfl (.tmp 19) (.tmp 20) 22 rfl (B + 1) 5 i0 (.int .u8 0) 1 Tryd.underlying22 HI.out.1 HI.out.2.1 HI.out.2.2.1 HI.out.2.2.2 rfl _ 0 [] rfl ?g1 (fun _ => True) (some ⟨w4.heap.size, 0, none⟩) 32 32 (Sm.dig l0) rfl ?g2 ?g3 ?g4 ?g5 ?_))
      case g1 =>
        have h := World.ownsRow_lit (base := B + 1) (e := 5) (size := 1) ((w4.alloc (.cells #[Value.int IntKind.u8 0, Value.int IntKind.u8 0, Value.int IntKind.u8 0, Value.int IntKind.u8 0, Value.int IntKind.u8 0, Value.int IntKind.u8 0, Value.int IntKind.u8 0, Value.int IntKind.u8 0, Value.int IntKind.u8 0, Value.int IntKind.u8 0, Value.int IntKind.u8 0, Value.int IntKind.u8 0, Value.int IntKind.u8 0, Value.int IntKind.u8 0, Value.int IntKind.u8 0, Value.int IntKind.u8 0, Value.int IntKind.u8 0, Value.int IntKind.u8 0, Value.int IntKind.u8 0, Value.int IntKind.u8 0, Value.int IntKind.u8 0, Value.int IntKind.u8 0, Value.int IntKind.u8 0, Value.int IntKind.u8 0, Value.int IntKind.u8 0, Value.int IntKind.u8 0, Value.int IntKind.u8 0, Value.int IntKind.u8 0, Value.int IntKind.u8 0, Value.int IntKind.u8 0, Value.int IntKind.u8 0, Value.int IntKind.u8 0] 24)).setRow w4.heap.size (nums (Sm.dig l0)).toArray) #[] 0 (by rw [put_size]; omega) (by unfold maxLen; omega) rfl
        first | exact h | (rw [put_size] at h; exact h)
      case g2 => exact txt_dig ((put_row (w := w4)).alloc _) HDG.out
      case g3 => unfold maxLen; omega
      case g4 => omega
      case g5 => rw [size_alloc, put_size]; omega
      intro v5 w5 hown hg _
      have HO5 := Lib.hid hown
      have HB5 : Hid (Below (B + 1) w0 w5) := Lib.hid (((put_below HB4.out s4).alloc (by rw [put_size]; omega) _).grown hg (by rw [size_alloc, put_size]; omega) (fun k hk => by simp [Value.ownBlock, put_size] at hk; omega))
      clear hown hg
      obtain ⟨q5, cap5, rfl⟩ := row_form HO5.out
      go_wp2_with fail
      go_meet
      exact ⟨32, by rw [e.out.1]; exact Nat.le_refl _, by omega, Lib.hid ⟨by rw [e.out.2]; simpa using HO5.out, HB5.out⟩⟩
    · have e : Hid (rlen l0 = n0 ∧ (Sm.kb l0).take n0 = l0) := Lib.hid (by
        have hh : ¬ 64 < l0.length := by rw [H0.out.1]; exact hgt
        have h1 : rlen l0 = n0 := by unfold rlen; rw [if_neg hh]; exact H0.out.1
        have h2 := rkb_start l0
        rw [h1, if_neg hh] at h2
        exact ⟨h1, h2⟩)
      have hd : decide ((64 : Int) < (n0 : Int)) = false := by simp; omega
      go_wp2_with fail
      go_meet
      exact ⟨n0, by rw [e.out.1]; exact Nat.le_refl _, by omega, Lib.hid ⟨by rw [e.out.2]; simpa using HO.out, HB2.out⟩⟩
  case rest =>
    obtain ⟨m, hm1, hm2, HM⟩ := hcut
    obtain ⟨q6', cap6', rfl⟩ := row_form HM.out.1
    clear HO HB2 s2
    go_wp2
    go_loopw [5] (fun v wr => ∃ m, rlen l0 ≤ m ∧ m ≤ 64 ∧ ∃ q cap, v = .slice q m cap ∧ Hid (wr.ownsRow (B + 1) 5 1 (.slice q m cap) m (nums ((Sm.kb l0).take m)) ∧ Below (B + 1) w0 wr)) (fun v _ => match v with | .slice _ m _ => 64 - m | _ => 0)
    case atStart => exact ⟨m, hm1, hm2, q6', cap6', rfl, HM⟩
    case round =>
      clear HM hm1 hm2
      obtain ⟨j, hj1, hj2, q, cap, rfl, HJ⟩ := hrel
      have sj : B + 1 ≤ wr.heap.size := Nat.le_trans hD HJ.out.2.size
      by_cases hlt : j < 64
      · have hd : decide ((j : Int) < 64) = true := by simp; omega
        go_wp2_with (at_builtin; refine wpList_append_one rfl (.tmp 25) (.tmp 26) 22 5 (.int .u8 0) 1 rfl Tryd.underlying22 u8_info rfl (by omega) (B + 1) _ j (nums ((Sm.kb l0).take j)) rfl (HJ.out.1.alloc _) wr.heap.size 5 (.int .u8 0) rfl (Whole.new _ _ _) rfl (by omega) (by simp; omega) ?_)
        intro v5 w5 hown hg
        have HO5 := Lib.hid hown
        have HB5 : Hid (Below (B + 1) w0 w5) := Lib.hid ((HJ.out.2.alloc sj _).grown hg (by simp; omega) (fun k hk => (HJ.out.1.lt k hk).1))
        clear hown hg
        obtain ⟨q5, cap5, rfl⟩ := row_form HO5.out
        go_wp2
        go_roundw
        case rel =>
          refine ⟨j + 1, by omega, by omega, q5, cap5, rfl, Lib.hid ⟨?_, HB5.out⟩⟩
          rw [rkb_zero l0 j hj1 hlt, nums_append]
          exact HO5.out
        case measure => simp; omega
      · have hd : decide ((j : Int) < 64) = false := by simp; omega
        have hj : j = 64 := by omega
        subst hj
        have hown := HJ.out.1
        rw [List.take_of_length_le (by rw [kb_len]; omega)] at hown
        have HTX := Lib.hid (rrow_txt hown (byt_kb H0.out.2.2.1)).old
        obtain ⟨gk, capk, ev, hgk, hltk⟩ := hown.form (by omega)
        injection ev with e1 _ e3
        subst e1
        subst e3
        have HBJ := Lib.hid HJ.out.2
        clear hown HJ
        go_wp2
        generalize wr = wk at *
        generalize hEe : wk.heap.size = E at *
        have HEE := Lib.hid hEe
        have HKL := Lib.hid (kb_len l0)
        have HKB := Lib.hid (byt_kb H0.out.2.2.1)
        obtain ⟨K, hK⟩ : ∃ K, Sm.kb l0 = K := ⟨_, rfl⟩
        have HCD : Hid (Sm.code l0 l1 = Sm.dig (Sm.chg 92 K ++ Sm.dig (Sm.chg 54 K ++ l1))) := Lib.hid (by rw [← hK]; rfl)
        rw [hK] at HTX HKL HKB
        have HP : Hid (Pair wk E 0 0 (.slice none 0 0) (.slice none 0 0) (Sm.chg 54 (K.take 0)) (Sm.chg 92 (K.take 0)) ∧ Below E wk wk) := Lib.hid ⟨⟨World.ownsRow_nil _ _ _ _, World.ownsRow_nil _ _ _ _, fun b hb => by simp [Value.ownBlock] at hb⟩, Below.refl _ _⟩
        clear hK hEe hlt hd hj1 hj2
        go_loopw [7, 8, 9] (fun v u i wr => ∃ (k : Nat) (q1 : Option Addr) (d1 : Nat) (q2 : Option Addr) (d2 : Nat), k ≤ 64 ∧ i = .int .i64 k ∧ v = .slice q1 k d1 ∧ u = .slice q2 k d2 ∧ Hid (Pair wr E k k (.slice q1 k d1) (.slice q2 k d2) (Sm.chg 54 (K.take k)) (Sm.chg 92 (K.take k)) ∧ Below E wk wr)) (fun _ _ i _ => 64 - (intOf i).toNat)
        case atStart => exact ⟨0, none, 0, none, 0, by omega, rfl, rfl, rfl, HP⟩
        case round =>
          clear HP
          obtain ⟨k, q1, d1, q2, d2, hk, rfl, rfl, rfl, HJ⟩ := hrel
          have zj : E ≤ wr.heap.size := Nat.le_trans (by rw [HEE.out]; exact Nat.le_refl _) HJ.out.2.size
          by_cases hlt : k < 64
          · have hd : decide ((k : Int) < 64) = true := by simp; omega
            have q0 : (k : Int) < 64 := by omega
            have hby := byt_getD HKB.out k
            have b54 := byt_one (y := 54) (by omega) HKB.out k
            have b92 := byt_one (y := 92) (by omega) HKB.out k
            have hv1 : bits .xor .u8 (K.getD k 0) 54 = (((K.getD k 0).toNat ^^^ (54 : Int).toNat : Nat) : Int) := u8_xor _ _ (by omega) (by omega) (by omega) (by omega)
            have hv2 : bits .xor .u8 (K.getD k 0) 92 = (((K.getD k 0).toNat ^^^ (92 : Int).toNat : Nat) : Int) := u8_xor _ _ (by omega) (by omega) (by omega) (by omega)
            have c0 : ∀ w5 : World, Below E wk w5 → w5.cell? ⟨gk, k, none⟩ = some (.int .u8 (K.getD k 0)) := fun w5 hb => by
              have := txt_cell4 (HTX.out.below hb (fun _ _ h => h)) hlt
              rwa [Nat.zero_add] at this
            have s1 : Hid (Sm.chg 54 (K.take (k + 1)) = Sm.chg 54 (K.take k) ++ [(((K.getD k 0).toNat ^^^ (54 : Int).toNat : Nat) : Int)]) := Lib.hid (chg_snoc 54 K k (by rw [HKL.out]; exact hlt))
            have s2 : Hid (Sm.chg 92 (K.take (k + 1)) = Sm.chg 92 (K.take k) ++ [(((K.getD k 0).toNat ^^^ (92 : Int).toNat : Nat) : Int)]) := Lib.hid (chg_snoc 92 K k (by rw [HKL.out]; exact hlt))
            generalize (((K.getD k 0).toNat ^^^ (54 : Int).toNat : Nat) : Int) = v1 at *
            generalize (((K.getD k 0).toNat ^^^ (92 : Int).toNat : Nat) : Int) = v2 at *
            with_reducible generalize K.getD k 0 = x at *
            have hx0 := hby.1
            have hx1 := hby.2
            have cc := c0 wr HJ.out.2
            have C0 := Lib.hid c0
            have B54 := Lib.hid b54
            have B92 := Lib.hid b92
            clear hby c0 b54 b92
            go_wp2_with (at_builtin; refine wpList_append_txt _ rfl (.tmp 32) (.tmp 38) 22 rfl E 5 i0 (.int .u8 0) 1 Tryd.underlying22 HI.out.1 HI.out.2.1 HI.out.2.2.1 HI.out.2.2.2 rfl _ k (nums (Sm.chg 54 (K.take k))) rfl ?e1 (fun _ => True) (some ⟨wr.heap.size, 0, none⟩) 1 1 [v1] rfl ?e2 ?e3 ?e4 ?e5 ?_)
            case e1 => exact HJ.out.1.one.alloc _
            case e2 => exact txt_of_whole (fun _ => True) trivial (l := [v1]) (Whole.new _ _ _) B54.out 1 1 (by simp) (by omega)
            case e3 => unfold maxLen; omega
            case e4 => omega
            case e5 => simp; omega
            intro v5 w5 hown hg hat
            have HP5 := Lib.hid ((HJ.out.1.below (below_alloc _ _)).first hown hg (by simpa using hat))
            have HB5 : Hid (Below E wk w5) := Lib.hid ((HJ.out.2.alloc zj _).grown hg (by simp; omega) (fun k hk => (HJ.out.1.one.lt k hk).1))
            have z5 : E ≤ w5.heap.size := Nat.le_trans (by rw [HEE.out]; exact Nat.le_refl _) HB5.out.size
            clear hown hg hat cc
            have cc := C0.out w5 HB5.out
            obtain ⟨q5, d5, rfl⟩ := row_form HP5.out.one
            go_wp2_with (at_builtin; refine wpList_append_txt _ rfl (.tmp 40) (.tmp 46) 22 rfl E 5 i0 (.int .u8 0) 1 Tryd.underlying22 HI.out.1 HI.out.2.1 HI.out.2.2.1 HI.out.2.2.2 rfl _ k (nums (Sm.chg 92 (K.take k))) rfl ?g1 (fun _ => True) (some ⟨w5.heap.size, 0, none⟩) 1 1 [v2] rfl ?g2 ?g3 ?g4 ?g5 ?_)
            case g1 => exact HP5.out.two.alloc _
            case g2 => exact txt_of_whole (fun _ => True) trivial (l := [v2]) (Whole.new _ _ _) B92.out 1 1 (by simp) (by omega)
            case g3 => unfold maxLen; omega
            case g4 => omega
            case g5 => simp; omega
            intro v6 w6 hown hg hat
            have HP6 := Lib.hid ((HP5.out.swap.below (below_alloc _ _)).first hown hg (by simpa using hat)).swap
            have HB6 : Hid (Below E wk w6) := Lib.hid ((HB5.out.alloc z5 _).grown hg (by simp; omega) (fun k hk => (HP5.out.two.lt k hk).1))
            clear hown hg hat cc
            obtain ⟨q6, d6, rfl⟩ := row_form HP6.out.two
            go_wp2
            go_roundw
            case rel => exact ⟨k + 1, q5, d5, q6, d6, by omega, by go_num, rfl, rfl, Lib.hid ⟨by rw [s1.out, s2.out]; exact HP6.out, HB6.out⟩⟩
            case measure => simp [intOf]; omega
          · have hd : decide ((k : Int) < 64) = false := by simp; omega
            have hk64 : k = 64 := by omega
            subst hk64
            have HP : Hid (Pair wr E 64 64 (.slice q1 64 d1) (.slice q2 64 d2) (Sm.chg 54 K) (Sm.chg 92 K)) := Lib.hid (by have := HJ.out.1; rwa [List.take_of_length_le (by rw [HKL.out]; omega)] at this)
            have HB0 : Hid (Below (B + 1) w0 wr) := Lib.hid (HBJ.out.trans (HJ.out.2.mono sj))
            have HBK := Lib.hid HJ.out.2
            have HY1 : Hid (Byt (Sm.chg 54 K)) := Lib.hid (byt_chg (y := 54) (by omega) HKB.out)
            have HY2 : Hid (Byt (Sm.chg 92 K)) := Lib.hid (byt_chg (y := 92) (by omega) HKB.out)
            have HTW : Hid (Txt wr (fun b => b < B) a1 n1 c1 l1) := Lib.hid (HT1.out.below HB0.out (fun b _ h => by omega))
            have HL1 : Hid (Byt l1) := Lib.hid H1.out.2.2.1
            have hkk : B + 1 ≤ E := sj
            clear HJ hd hlt hk
            go_wp2_with (at_builtin; refine wpList_append_txt _ rfl (.tmp 48) (.tmp 49) 22 rfl E 5 i0 (.int .u8 0) 1 Tryd.underlying22 HI.out.1 HI.out.2.1 HI.out.2.2.1 HI.out.2.2.2 rfl _ 64 (nums (Sm.chg 54 K)) rfl ?e1 (fun b => b < B) a1 n1 c1 l1 rfl ?e2 ?e3 ?e4 ?e5 ?_)
            case e1 => exact HP.out.one
            case e2 => exact HTW.out
            case e3 => unfold maxLen; omega
            case e4 => omega
            case e5 => exact zj
            intro v5 w5 hown hg hat
            have HP5 := Lib.hid (HP.out.first hown hg hat)
            have HB5 : Hid (Below E wk w5) := Lib.hid (HBK.out.grown hg zj (fun k hk => (HP.out.one.lt k hk).1))
            have z5 : E ≤ w5.heap.size := Nat.le_trans (by rw [HEE.out]; exact Nat.le_refl _) HB5.out.size
            clear hown hg hat
            obtain ⟨q5, d5, rfl⟩ := row_form HP5.out.one
            have HX5 := Lib.hid (rrow_txt HP5.out.one (byt_append HY1.out HL1.out))
            go_wp2_with fail
            refine (rsum_any HX5.out (by omega)).mono ?_
            rintro e w6 ⟨rfl, hb6⟩
            have HP6 := Lib.hid (HP5.out.below hb6)
            have HB6 : Hid (Below E wk w6) := Lib.hid (HB5.out.trans (hb6.mono z5))
            have z6 : E ≤ w6.heap.size := Nat.le_trans z5 hb6.size
            clear hb6
            obtain ⟨inner, hin⟩ : ∃ inner, Sm.dig (Sm.chg 54 K ++ l1) = inner := ⟨_, rfl⟩
            have HDI : Hid (Dig inner) := Lib.hid (by rw [← hin]; exact dig_ok _)
            have HIN : Hid (Sm.code l0 l1 = Sm.dig (Sm.chg 92 K ++ inner)) := Lib.hid (by rw [← hin]; exact HCD.out)
            rw [hin]
            clear hin
            have hNa := all_nums inner
            have HNS := Lib.hid (row_size HDI.out)
            go_wp2_with (first
              | ((with_reducible show wpList _ _ _ ((⟨_, Op.store 24 _ _, _, _, _, _⟩ : Oper) :: _) _ _); refine wpList_store_row rfl _ (.tmp 10) (.tmp 51) rfl w6.heap.size _ rfl rfl 24 _ (Whole.new _ _ _) (by rw [HNS.out]; exact info32) (by rw [HNS.out]; rfl) hNa ?_)
              | (at_builtin; refine wpList_append_txt _ rfl (.tmp 52) (.tmp 53) 22 rfl E 5 i0 (.int .u8 0) 1 Tryd.underlying22 HI.out.1 HI.out.2.1 HI.out.2.2.1 HI.out.2.2.2 rfl _ 64 (nums (Sm.chg 92 K)) rfl ?g1 (fun _ => True) (some ⟨w6.heap.size, 0, none⟩) 32 32 inner rfl ?g2 ?g3 ?g4 ?g5 ?_))
            case g1 => exact (HP6.out.below (put_below (Below.refl _ _) (Nat.le_refl _))).two
            case g2 => exact txt_dig put_row HDI.out
            case g3 => unfold maxLen; omega
            case g4 => omega
            case g5 => rw [put_size]; omega
            intro v7 w7 hown hg hat
            have HP7 := Lib.hid ((HP6.out.below (put_below (Below.refl _ _) (Nat.le_refl _))).swap.first hown hg (by simpa [put_size] using hat)).one
            have HB7 : Hid (Below E wk w7) := Lib.hid ((put_below HB6.out z6).grown hg (by rw [put_size]; omega) (fun k hk => (HP6.out.two.lt k hk).1))
            have z7 : E ≤ w7.heap.size := Nat.le_trans (by rw [HEE.out]; exact Nat.le_refl _) HB7.out.size
            clear hown hg hat
            obtain ⟨q7, d7, rfl⟩ := row_form HP7.out
            have HX7 := Lib.hid (rrow_txt HP7.out (byt_append HY2.out HDI.out.2))
            go_wp2_with fail
            refine (rsum_any HX7.out (by omega)).mono ?_
            rintro e w8 ⟨rfl, hb8⟩
            rw [← HIN.out]
            have HB8 : Hid (Below (B + 1) w0 w8) := Lib.hid (HBJ.out.trans ((HB7.out.trans (hb8.mono z7)).mono sj))
            clear hb8
            have KB : Hid (Whole w8 B 24 (nums (zs 32)).toArray) := Lib.hid (K0.out.1.below HB8.out (by omega))
            have HBL : Hid (Below B w w8) := Lib.hid (K0.out.2.trans (HB8.out.mono (by omega)))
            have hNe := all_nums (Sm.code l0 l1)
            have HNS5 : Hid ((nums (Sm.code l0 l1)).toArray.size = 32) := Lib.hid (by rw [HIN.out]; exact row_size (dig_ok _))
            have HZ32 : Hid ((nums (zs 32)).toArray.size = 32) := Lib.hid rfl
            with_reducible generalize hN : (nums (Sm.code l0 l1)).toArray = N at *
            go_wp2_with ((with_reducible show wpList _ _ _ ((⟨_, Op.store 24 _ _, _, _, _, _⟩ : Oper) :: _) _ _); refine wpList_store_row rfl _ (.tmp 4) (.tmp 55) rfl B N rfl rfl 24 _ KB.out (by rw [HNS5.out]; exact info32) (by rw [HZ32.out, HNS5.out]) hNe ?_)
            refine bodyPost_ret (results_one_cell rfl _ _ _ _ rfl (run_loadVar_row _ _ _ _ _ (0, 0) _ (KB.out.row N) und32 rfl (by rw [HNS5.out]; exact info32))) rfl ?_
            exact ⟨by rw [hN], by rw [HBE.out]; exact below_row HBL.out (Nat.le_refl _) N⟩
end Go.Proofs.YtndiojiphoomgaaDoor
