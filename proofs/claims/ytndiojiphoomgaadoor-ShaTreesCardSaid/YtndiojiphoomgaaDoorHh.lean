/-
  The walks of changed and keyBlock.
-/
import Derived.Test.YtndiojiphoomgaaDoorHg
namespace Go.Proofs.YtndiojiphoomgaaDoor
open Go.RowKit
namespace Sm
def chg (y : Int) (l : List Int) : List Int := l.map fun x => ((x.toNat ^^^ y.toNat : Nat) : Int)
def kb (l : List Int) : List Int := if 64 < l.length then dig l ++ List.replicate 32 0 else l ++ List.replicate (64 - l.length) 0
def code (key text : List Int) : List Int := dig (chg 92 (kb key) ++ dig (chg 54 (kb key) ++ text))
end Sm
theorem xor8_lt {x y : Nat} (hx : x < 256) (hy : y < 256) : x ^^^ y < 256 := Nat.xor_lt_two_pow (n := 8) hx hy
theorem byt_chg {y : Int} {l : List Int} (hy : 0 ≤ y ∧ y < 256) (h : Byt l) : Byt (Sm.chg y l) := by
  intro z hz
  obtain ⟨x, hx, rfl⟩ := List.mem_map.1 hz
  have h1 := h x hx
  have := xor8_lt (x := x.toNat) (y := y.toNat) (by omega) (by omega)
  omega
theorem chg_len (y : Int) (l : List Int) : (Sm.chg y l).length = l.length := by simp [Sm.chg]
theorem dig_len (l : List Int) : (Sm.dig l).length = 32 := by rw [Sm.dig, bytesOf_len]; rfl
theorem byt_dig (l : List Int) : Byt (Sm.dig l) := byt_bytesOf _
theorem kb_len (l : List Int) : (Sm.kb l).length = 64 := by
  unfold Sm.kb
  split
  · simp [dig_len]
  · simp; omega
theorem byt_kb {l : List Int} (h : Byt l) : Byt (Sm.kb l) := by
  unfold Sm.kb
  split
  · exact byt_append (byt_dig l) (byt_zeros _)
  · exact byt_append h (byt_zeros _)
theorem zero64b : #[Value.int IntKind.u8 0, Value.int IntKind.u8 0, Value.int IntKind.u8 0, Value.int IntKind.u8 0, Value.int IntKind.u8 0, Value.int IntKind.u8 0, Value.int IntKind.u8 0, Value.int IntKind.u8 0, Value.int IntKind.u8 0, Value.int IntKind.u8 0, Value.int IntKind.u8 0, Value.int IntKind.u8 0, Value.int IntKind.u8 0, Value.int IntKind.u8 0, Value.int IntKind.u8 0, Value.int IntKind.u8 0, Value.int IntKind.u8 0, Value.int IntKind.u8 0, Value.int IntKind.u8 0, Value.int IntKind.u8 0, Value.int IntKind.u8 0, Value.int IntKind.u8 0, Value.int IntKind.u8 0, Value.int IntKind.u8 0, Value.int IntKind.u8 0, Value.int IntKind.u8 0, Value.int IntKind.u8 0, Value.int IntKind.u8 0, Value.int IntKind.u8 0, Value.int IntKind.u8 0, Value.int IntKind.u8 0, Value.int IntKind.u8 0, Value.int IntKind.u8 0, Value.int IntKind.u8 0, Value.int IntKind.u8 0, Value.int IntKind.u8 0, Value.int IntKind.u8 0, Value.int IntKind.u8 0, Value.int IntKind.u8 0, Value.int IntKind.u8 0, Value.int IntKind.u8 0, Value.int IntKind.u8 0, Value.int IntKind.u8 0, Value.int IntKind.u8 0, Value.int IntKind.u8 0, Value.int IntKind.u8 0, Value.int IntKind.u8 0, Value.int IntKind.u8 0, Value.int IntKind.u8 0, Value.int IntKind.u8 0, Value.int IntKind.u8 0, Value.int IntKind.u8 0, Value.int IntKind.u8 0, Value.int IntKind.u8 0, Value.int IntKind.u8 0, Value.int IntKind.u8 0, Value.int IntKind.u8 0, Value.int IntKind.u8 0, Value.int IntKind.u8 0, Value.int IntKind.u8 0, Value.int IntKind.u8 0, Value.int IntKind.u8 0, Value.int IntKind.u8 0, Value.int IntKind.u8 0] = (nums (zs 64)).toArray := rfl
theorem chg_set (y : Int) (b : List Int) (k : Nat) (hk : k < b.length) : (nums (Sm.chg y (b.take k) ++ b.drop k)).toArray.setIfInBounds k (.int .u8 (((b.getD k 0).toNat ^^^ y.toNat : Nat) : Int)) = (nums (Sm.chg y (b.take (k + 1)) ++ b.drop (k + 1))).toArray := by
  have e : b.drop k = b.getD k 0 :: b.drop (k + 1) := by
    rw [List.drop_eq_getElem_cons hk]
    simp [hk]
  rw [e, nums_set _ _ _ _ _ (by rw [chg_len, List.length_take]; omega)]
  congr 2
  have e2 : b.take (k + 1) = b.take k ++ [b.getD k 0] := by
    rw [List.take_succ_eq_append_getElem hk]; simp [hk]
  rw [e2]
  simp [Sm.chg]
theorem chg_get (y : Int) (b : List Int) (k : Nat) (hk : k < b.length) : (Sm.chg y (b.take k) ++ b.drop k).getD k 0 = b.getD k 0 := by
  have : (Sm.chg y (b.take k)).length = k := by rw [chg_len, List.length_take]; omega
  simp [List.getElem?_append_right, this]
set_option maxHeartbeats 2000000 in
theorem changed_any (y : Int) (b : List Int) (w : World) (hy : 0 ≤ y ∧ y < 256) (hb : Byt b) (hl : b.length = 64) :
    Calls Tryd.prog 21 #[.agg (nums b).toArray, .int .u8 y] w fun e w' => e = .returned (.agg (nums (Sm.chg y b)).toArray) ∧ Below w.heap.size w w' := by
  have HL := Lib.hid hl
  clear hl
  go_enter Tryd.func21, Tryd.ntmps21
  go_wp2
  rw [zero64b]
  have kb := (Whole.new w 39 (nums b).toArray).alloc (.cells (nums (zs 64)).toArray 39)
  have kr := Whole.new (w.alloc (.cells (nums b).toArray 39)) 39 (nums (zs 64)).toArray
  have hb3 : Below w.heap.size w ((w.alloc (.cells (nums b).toArray 39)).alloc (.cells (nums (zs 64)).toArray 39)) := (below_alloc w _).alloc (by simp) _
  rw [size_alloc] at kr
  generalize (w.alloc (.cells (nums b).toArray 39)).alloc (.cells (nums (zs 64)).toArray 39) = w2 at *
  generalize hBe : w.heap.size = B at *
  have HBE := Lib.hid hBe
  have H0 := Lib.hid (And.intro kb (And.intro kr hb3))
  clear kb kr hb3 hBe
  go_loopw [6] (fun i wr => ∃ k : Nat, k ≤ 64 ∧ i = .int .i64 k ∧ Hid (Whole wr B 39 (nums (Sm.chg y (b.take k) ++ b.drop k)).toArray ∧ Whole wr (B + 1) 39 (nums (zs 64)).toArray ∧ Below B w wr)) (fun i _ => 64 - (intOf i).toNat)
  case atStart => exact ⟨0, Nat.zero_le _, rfl, H0⟩
  case round =>
    clear H0
    obtain ⟨k, hk, rfl, HB⟩ := hrel
    by_cases hlt : k < 64
    · have hd : decide ((k : Int) < 64) = true := by simp; omega
      have q0 : (k : Int) < 64 := by omega
      have hkl : k < b.length := by rw [HL.out]; exact hlt
      have hlen : (Sm.chg y (b.take k) ++ b.drop k).length = 64 := by rw [List.length_append, chg_len, List.length_take, List.length_drop, HL.out]; omega
      have hby := byt_getD hb k
      have c0 : wr.cell? ⟨B, k, none⟩ = some (.int .u8 (b.getD k 0)) := (HB.out.1.cell _).trans (by rw [List.getElem?_toArray, nums_get _ _ (by omega), chg_get y b k hkl])
      have f0 : wr.frozen? ⟨B, k, none⟩ = false := HB.out.1.frozen _
      have hv : bits .xor .u8 (b.getD k 0) y = (((b.getD k 0).toNat ^^^ y.toNat : Nat) : Int) := u8_xor _ _ (by omega) (by omega) (by omega) (by omega)
      have HS := Lib.hid (chg_set y b k hkl)
      have hby' := hby.1
      have hby'' := hby.2
      generalize (((b.getD k 0).toNat ^^^ y.toNat : Nat) : Int) = v at *
      with_reducible generalize b.getD k 0 = x at *
      clear hlen hkl hby
      go_wp2
      go_roundw
      case rel =>
        refine ⟨k + 1, by omega, by go_num, Lib.hid ⟨?_, HB.out.2.1.far (by show B + 1 ≠ B; omega) _, HB.out.2.2.setCell (by show B ≤ B; omega) _⟩⟩
        rw [← HS.out]
        exact HB.out.1.set _ _
      case measure => simp [intOf]; omega
    · have hd : decide ((k : Int) < 64) = false := by simp; omega
      have hk8 : k = 64 := by omega
      have K2 : Hid (Whole wr B 39 (nums (Sm.chg y b)).toArray) := Lib.hid (by have := HB.out.1; rw [hk8, List.take_of_length_le (by rw [HL.out]; omega), List.drop_eq_nil_of_le (by rw [HL.out]; omega), List.append_nil] at this; exact this)
      have K1 := Lib.hid HB.out.2.1
      have HBL := Lib.hid HB.out.2.2
      clear HB hk8
      have hNa := all_nums (Sm.chg y b)
      have HNS : Hid ((nums (Sm.chg y b)).toArray.size = 64) := Lib.hid (by simp [nums_len, chg_len]; exact HL.out)
      have HZ : Hid ((nums (zs 64)).toArray.size = 64) := Lib.hid rfl
      with_reducible generalize hN : (nums (Sm.chg y b)).toArray = N at *
      go_wp2_with (first
        | ((with_reducible show wpList _ _ _ ((⟨_, Op.load 39 _, _, _, _, _⟩ : Oper) :: _) _ _); refine wpList_load_row rfl _ (.tmp 2) rfl B rfl 39 N (0, 0) _ K2.out undB64 rfl (by rw [HNS.out]; exact infoB64) ?_)
        | ((with_reducible show wpList _ _ _ ((⟨_, Op.store 39 _ _, _, _, _, _⟩ : Oper) :: _) _ _); refine wpList_store_row rfl _ (.tmp 4) (.tmp 16) rfl (B + 1) N rfl rfl 39 _ K1.out (by rw [HNS.out]; exact infoB64) (by rw [HZ.out, HNS.out]) hNa ?_))
      refine bodyPost_ret (results_one_cell rfl _ _ _ _ rfl (run_loadVar_row _ _ _ _ _ (0, 0) _ (K1.out.row N) undB64 rfl (by rw [HNS.out]; exact infoB64))) rfl ?_
      exact ⟨by rw [hN], by rw [HBE.out]; exact below_row HBL.out (by omega) N⟩
theorem parts_whole {w : World} {S : Nat → Prop} {g : Nat} {T : TypeId} {vs : List Value} {ps : List (List Int)} (h : Whole w g T vs.toArray) (hS : S g) (hall : ∀ k, k < ps.length → ∃ a n c, vs[k]? = some (.slice a n c) ∧ Txt w S a n c (ps.getD k [])) : Parts w S (some ⟨g, 0, none⟩) ps.length ps := by
  refine ⟨rfl, Or.inr ⟨g, 0, rfl, hS, h.lt, fun k hk => ?_⟩⟩
  obtain ⟨a, n, c, h1, h2⟩ := hall k hk
  exact ⟨a, n, c, by rw [Nat.zero_add, h.cell, List.getElem?_toArray]; exact h1, h2⟩
theorem parts_one {w : World} {S : Nat → Prop} {g : Nat} {T : TypeId} {a : Option Addr} {n c : Nat} {l : List Int} (h : Whole w g T #[.slice a n c]) (hS : S g) (ht : Txt w S a n c l) : Parts w S (some ⟨g, 0, none⟩) 1 [l] :=
  parts_whole (vs := [.slice a n c]) h hS (fun k hk => by
    have : k = 0 := by simp at hk; exact hk
    subst this
    exact ⟨a, n, c, rfl, ht⟩)
theorem parts_two {w : World} {S : Nat → Prop} {g : Nat} {T : TypeId} {a a' : Option Addr} {n c n' c' : Nat} {l l' : List Int} (h : Whole w g T #[.slice a n c, .slice a' n' c']) (hS : S g) (ht : Txt w S a n c l) (ht' : Txt w S a' n' c' l') : Parts w S (some ⟨g, 0, none⟩) 2 [l, l'] :=
  parts_whole (vs := [.slice a n c, .slice a' n' c']) h hS (fun k hk => by
    simp at hk
    match k, hk with
    | 0, _ => exact ⟨a, n, c, rfl, ht⟩
    | 1, _ => exact ⟨a', n', c', rfl, ht'⟩)
theorem parts_three {w : World} {S : Nat → Prop} {g : Nat} {T : TypeId} {a a' a'' : Option Addr} {n c n' c' n'' c'' : Nat} {l l' l'' : List Int} (h : Whole w g T #[.slice a n c, .slice a' n' c', .slice a'' n'' c'']) (hS : S g) (ht : Txt w S a n c l) (ht' : Txt w S a' n' c' l') (ht'' : Txt w S a'' n'' c'' l'') : Parts w S (some ⟨g, 0, none⟩) 3 [l, l', l''] :=
  parts_whole (vs := [.slice a n c, .slice a' n' c', .slice a'' n'' c'']) h hS (fun k hk => by
    simp at hk
    match k, hk with
    | 0, _ => exact ⟨a, n, c, rfl, ht⟩
    | 1, _ => exact ⟨a', n', c', rfl, ht'⟩
    | 2, _ => exact ⟨a'', n'', c'', rfl, ht''⟩)
theorem splice_zs (l : List Int) : splice (nums (zs 64)) 0 (nums l) = nums (l ++ List.replicate (64 - l.length) 0) := by
  unfold splice
  rw [List.take_zero, List.nil_append, Nat.zero_add, ← nums_drop, nums_len, nums_append, zs, List.drop_replicate]
theorem splice_kb1 (l : List Int) (h : 64 < l.length) : splice (nums (zs 64)) 0 (nums (Sm.dig l)) = nums (Sm.kb l) := by
  rw [splice_zs, dig_len]
  unfold Sm.kb
  rw [if_pos h]
theorem splice_kb2 (l : List Int) (h : ¬ 64 < l.length) : splice (nums (zs 64)) 0 (nums l) = nums (Sm.kb l) := by
  rw [splice_zs]
  unfold Sm.kb
  rw [if_neg h]
set_option maxHeartbeats 2000000 in
theorem keyBlock_any {S : Nat → Prop} {a : Option Addr} {n c : Nat} {l : List Int} {w : World} (h : Txt w S a n c l) (hR : Roots w) (hn : n ≤ 900000) :
    Calls Tryd.prog 20 #[.slice a n c] w fun e w' => e = .returned (.agg (nums (Sm.kb l)).toArray) ∧ Below w.heap.size w w' := by
  have H := Lib.hid h.old
  have HR := Lib.hid hR
  have hB2 := hR.two
  have hnl : l.length = n := h.1
  have HN := Lib.hid hnl
  clear h hR hnl
  by_cases hgt : 64 < n
  · have hd : decide ((64 : Int) < (n : Int)) = true := by simp; omega
    go_enter Tryd.func20, Tryd.ntmps20
    go_wp2_with fail
    rw [zero64b]
    have kr := ((Whole.new w 39 (nums (zs 64)).toArray).alloc (.cells (nums (zs 64)).toArray 39)).alloc (.cells #[.slice a n c] 22)
    have kt := (Whole.new (w.alloc (.cells (nums (zs 64)).toArray 39)) 39 (nums (zs 64)).toArray).alloc (.cells #[.slice a n c] 22)
    have kp := Whole.new ((w.alloc (.cells (nums (zs 64)).toArray 39)).alloc (.cells (nums (zs 64)).toArray 39)) 22 #[.slice a n c]
    have hb2 : Below w.heap.size w (((w.alloc (.cells (nums (zs 64)).toArray 39)).alloc (.cells (nums (zs 64)).toArray 39)).alloc (.cells #[.slice a n c] 22)) := ((below_alloc w _).alloc (by simp) _).alloc (by simp; omega) _
    simp only [size_alloc] at kt kp
    generalize ((w.alloc (.cells (nums (zs 64)).toArray 39)).alloc (.cells (nums (zs 64)).toArray 39)).alloc (.cells #[.slice a n c] 22) = w3 at *
    generalize hBe : w.heap.size = B at *
    have HBE := Lib.hid hBe
    have hp := parts_one (S := fun _ => True) kp trivial ((H.out.below hb2 (fun b _ h => h)).weak (fun _ _ _ => trivial))
    refine (sum_any hp (HR.out.below hb2 (by omega)) (by simp; rw [HN.out]; omega) (by omega)).mono ?_
    rintro e w4 ⟨rfl, hb4⟩
    rw [show [l].flatten = l by simp]
    have hs3 : B + 1 + 1 < w3.heap.size := kp.lt
    have hs4 := hb4.size
    have H4 := Lib.hid (And.intro (kr.below hb4 (by omega)) (And.intro (kt.below hb4 (by omega)) (hb2.trans (hb4.mono (by omega)))))
    have hz4 : B + 1 + 1 < w4.heap.size := by omega
    clear kr kt kp hb2 hp hb4 hBe hs3 hs4
    have hNa := all_nums (Sm.dig l)
    have HNS : Hid ((nums (Sm.dig l)).toArray.size = 32) := Lib.hid (by simp [nums_len, dig_len])
    have HN2 : Hid ((nums (Sm.dig l)).length = 32) := Lib.hid (by simp [nums_len, dig_len])
    go_wp2_with ((with_reducible show wpList _ _ _ ((⟨_, Op.store 24 _ _, _, _, _, _⟩ : Oper) :: _) _ _); refine wpList_store_row rfl _ (.tmp 4) (.tmp 10) rfl w4.heap.size _ rfl rfl 24 _ (Whole.new _ _ _) (by rw [HNS.out]; exact info32) (by rw [HNS.out]; rfl) hNa ?_)
    rw [zero32z]
    have kr := (H4.out.1.alloc (.cells (nums (zs 32)).toArray 24)).rowFar (b := w4.heap.size) (by omega) (nums (Sm.dig l)).toArray
    have kt := (H4.out.2.1.alloc (.cells (nums (zs 32)).toArray 24)).rowFar (b := w4.heap.size) (by omega) (nums (Sm.dig l)).toArray
    have kd := (Whole.new w4 24 (nums (zs 32)).toArray).row (nums (Sm.dig l)).toArray
    have hb5 : Below B w ((w4.alloc (.cells (nums (zs 32)).toArray 24)).setRow w4.heap.size (nums (Sm.dig l)).toArray) := below_row (H4.out.2.2.alloc (by omega) _) (by omega) _
    generalize (w4.alloc (.cells (nums (zs 32)).toArray 24)).setRow w4.heap.size (nums (Sm.dig l)).toArray = w5 at *
    generalize w4.heap.size = D at *
    have H5 := Lib.hid (And.intro kr (And.intro kt (And.intro kd hb5)))
    clear kr kt kd hb5 H4
    go_still_tail 2, (by kernel_rfl)
    change wpList _ _ _ _ _ w5.drew
    refine wpList_copy_splice rfl (.tmp 11) (.tmp 12) 22 22 rfl 5 Tryd.underlying22 infou8 (some ⟨B + 1, 0, none⟩) (some ⟨D, 0, none⟩) 64 64 32 32 rfl rfl (B + 1) 0 (nums (zs 64)) 39 H5.out.2.1 (nums (Sm.dig l)) (by rw [HN2.out]; rfl) ?_ (by rw [HN2.out, nums_len, zs_len]; omega) (nums_one _) (B + 1) w5 ((Below.refl _ _).drew) (Nat.le_refl _) ?_
    · intro _
      refine ⟨rfl, ⟨D, 0, none⟩, rfl, fun j v hv => ?_⟩
      rw [Addr.add_lit, Nat.zero_add]
      exact (H5.out.2.2.1.cell j).trans (by rw [List.getElem?_toArray]; exact hv)
    intro w6 hw6 hb6
    have K2 : Hid (Whole w6 (B + 1) 39 (nums (Sm.kb l)).toArray) := Lib.hid (by have := hw6.out; rw [splice_kb1 l (by rw [HN.out]; exact hgt)] at this; exact this)
    have K1 := Lib.hid (H5.out.1.below hb6 (by omega))
    have HBL : Hid (Below B w w6) := Lib.hid (H5.out.2.2.2.trans (hb6.mono (by omega)))
    clear hw6 hb6 hNa HNS HN2
    have hNa := all_nums (Sm.kb l)
    have HNS : Hid ((nums (Sm.kb l)).toArray.size = 64) := Lib.hid (by simp [nums_len, kb_len])
    have HZ : Hid ((nums (zs 64)).toArray.size = 64) := Lib.hid rfl
    with_reducible generalize hNN : (nums (Sm.kb l)).toArray = N at *
    go_wp2_with (first
      | ((with_reducible show wpList _ _ _ ((⟨_, Op.load 39 _, _, _, _, _⟩ : Oper) :: _) _ _); refine wpList_load_row rfl _ (.tmp 3) rfl (B + 1) rfl 39 N (0, 0) _ K2.out undB64 rfl (by rw [HNS.out]; exact infoB64) ?_)
      | ((with_reducible show wpList _ _ _ ((⟨_, Op.store 39 _ _, _, _, _, _⟩ : Oper) :: _) _ _); refine wpList_store_row rfl _ (.tmp 2) (.tmp 17) rfl B N rfl rfl 39 _ K1.out (by rw [HNS.out]; exact infoB64) (by rw [HZ.out, HNS.out]) hNa ?_))
    refine bodyPost_ret (results_one_cell rfl _ _ _ _ rfl (run_loadVar_row _ _ _ _ _ (0, 0) _ (K1.out.row N) undB64 rfl (by rw [HNS.out]; exact infoB64))) rfl ?_
    exact ⟨by rw [hNN], by rw [HBE.out]; exact below_row HBL.out (by omega) N⟩
  · have hd : decide ((64 : Int) < (n : Int)) = false := by simp; omega
    go_enter Tryd.func20, Tryd.ntmps20
    go_upto_region 5 with (fail)
    rw [zero64b]
    have kr := (Whole.new w 39 (nums (zs 64)).toArray).alloc (.cells (nums (zs 64)).toArray 39)
    have kt := Whole.new (w.alloc (.cells (nums (zs 64)).toArray 39)) 39 (nums (zs 64)).toArray
    have hb2 : Below w.heap.size w ((w.alloc (.cells (nums (zs 64)).toArray 39)).alloc (.cells (nums (zs 64)).toArray 39)) := (below_alloc w _).alloc (by simp) _
    rw [size_alloc] at kt
    generalize (w.alloc (.cells (nums (zs 64)).toArray 39)).alloc (.cells (nums (zs 64)).toArray 39) = w5 at *
    generalize hBe : w.heap.size = B at *
    have HBE := Lib.hid hBe
    have HT := Lib.hid (H.out.below hb2 (fun b _ h => h))
    have H5 := Lib.hid (And.intro kr (And.intro kt hb2))
    clear kr kt hb2 hBe H
    go_wp2_with ((with_reducible show wpList _ _ _ ((⟨some 16, _, _, _, _, _⟩ : Oper) :: _) _ _); refine wpList_copy_splice rfl (.tmp 14) (.tmp 15) 22 22 rfl 5 Tryd.underlying22 infou8 (some ⟨B + 1, 0, none⟩) a 64 64 n c rfl rfl (B + 1) 0 (nums (zs 64)) 39 H5.out.2.1 (nums l) ?c1 ?c2 ?c3 (nums_one _) (B + 1) w5 (Below.refl _ _) (Nat.le_refl _) ?_)
    case c1 => rw [nums_len, HN.out]; show n = min n 64; omega
    case c2 =>
      intro hp
      rw [nums_len, HN.out] at hp
      obtain ⟨b, off, rfl, _, _, hrg⟩ := HT.out.cells hp
      exact ⟨⟨b, off, none⟩, rfl, fun j v hv => by rw [Addr.add_lit]; exact hrg j v hv⟩
    case c3 => rw [nums_len, nums_len, zs_len, HN.out]; omega
    intro w6 hw6 hb6
    have K2 : Hid (Whole w6 (B + 1) 39 (nums (Sm.kb l)).toArray) := Lib.hid (by have := hw6.out; rw [splice_kb2 l (by rw [HN.out]; exact hgt)] at this; exact this)
    have K1 := Lib.hid (H5.out.1.below hb6 (by omega))
    have HBL : Hid (Below B w w6) := Lib.hid (H5.out.2.2.trans (hb6.mono (by omega)))
    clear hw6 hb6
    have hNa := all_nums (Sm.kb l)
    have HNS : Hid ((nums (Sm.kb l)).toArray.size = 64) := Lib.hid (by simp [nums_len, kb_len])
    have HZ : Hid ((nums (zs 64)).toArray.size = 64) := Lib.hid rfl
    with_reducible generalize hNN : (nums (Sm.kb l)).toArray = N at *
    go_wp2_with (first
      | ((with_reducible show wpList _ _ _ ((⟨_, Op.load 39 _, _, _, _, _⟩ : Oper) :: _) _ _); refine wpList_load_row rfl _ (.tmp 3) rfl (B + 1) rfl 39 N (0, 0) _ K2.out undB64 rfl (by rw [HNS.out]; exact infoB64) ?_)
      | ((with_reducible show wpList _ _ _ ((⟨_, Op.store 39 _ _, _, _, _, _⟩ : Oper) :: _) _ _); refine wpList_store_row rfl _ (.tmp 2) (.tmp 17) rfl B N rfl rfl 39 _ K1.out (by rw [HNS.out]; exact infoB64) (by rw [HZ.out, HNS.out]) hNa ?_))
    refine bodyPost_ret (results_one_cell rfl _ _ _ _ rfl (run_loadVar_row _ _ _ _ _ (0, 0) _ (K1.out.row N) undB64 rfl (by rw [HNS.out]; exact infoB64))) rfl ?_
    exact ⟨by rw [hNN], by rw [HBE.out]; exact below_row HBL.out (by omega) N⟩
end Go.Proofs.YtndiojiphoomgaaDoor
