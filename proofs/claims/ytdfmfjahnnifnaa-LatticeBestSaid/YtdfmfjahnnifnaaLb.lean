/-
  The walks of the law's own functions: grown and plain.
-/
import Derived.Test.YtdfmfjahnnifnaaLa
namespace Go.Proofs.Ytdfmfjahnnifnaa
set_option maxRecDepth 20000
set_option linter.unusedSimpArgs false
set_option linter.unusedVariables false
open Go.RowKit Go.Great
theorem fewOf_snoc (l : List Ft.Fact) {j : Nat} (h : j < l.length) : La.fewOf l (j + 1) = if La.few (l.getD j Ft.nought) then La.fewOf l j ++ [l.getD j Ft.nought] else La.fewOf l j := by
  unfold La.fewOf
  rw [take_snocF l h, List.filter_append]
  generalize l.getD j Ft.nought = g
  by_cases hw : La.few g = true
  · rw [if_pos hw]; simp [List.filter_cons, hw]
  · rw [if_neg hw]; simp [List.filter_cons, hw]
theorem grown_snoc (N : Int) (l : List Ft.Fact) {j : Nat} (h : j < l.length) : La.grown N l (j + 1) = if La.few (l.getD j Ft.nought) then La.merge N (La.grown N l j) [l.getD j Ft.nought] else La.grown N l j := by
  unfold La.grown
  rw [fewOf_snoc l h]
  split
  · rw [La.merge_append]
  · rfl
theorem grown_zero (N : Int) (l : List Ft.Fact) : La.grown N l 0 = [] := rfl
theorem fewOf_end (l : List Ft.Fact) {j most : Nat} (h : j = l.length ∧ j ≤ most ∨ j = most) : La.fewOf l j = La.fewOf l most := by
  rcases h with ⟨h, h'⟩ | h
  · unfold La.fewOf
    rw [List.take_of_length_le (by omega), List.take_of_length_le (by omega)]
  · rw [h]
set_option maxHeartbeats 4000000 in
theorem grown_any (L : Lat) {w : World} {S D : Nat → Prop} {a : Option Addr} {n c : Nat} {R : List Fm} (h : Fts w S D a n R) (N : Int) (most : Nat) (hmost : most ≤ 40) :
    Calls Try.prog 31 #[.int .i64 N, .slice a n c, .int .i64 (most : Int)] w (Owns w (La.grown N (FS R) most)) := by
  have H := Lib.hid h.old
  have HLN := Lib.hid (show (FS R).length = n by rw [FS_len, h.1])
  clear h
  go_enter Try.func31, Try.ntmps31
  go_wp2
  go_loopw [7, 8, 9] (fun v i _ wr => ∃ (j n2 c2 : Nat) (a2 : Option Addr) (R2 : List Fm), j ≤ n ∧ j ≤ most ∧ v = .slice a2 n2 c2 ∧ i = .int .i64 (j : Int) ∧ Hid (Own wr w.heap.size a2 n2 c2 R2 ∧ FS R2 = La.grown N (FS R) j ∧ Below w.heap.size w wr)) (fun _ i _ _ => most - (intOf i).toNat)
  case atStart => exact ⟨0, 0, 0, none, [], Nat.zero_le _, Nat.zero_le _, rfl, rfl, Lib.hid ⟨Own.nil _ _, rfl, Below.refl _ _⟩⟩
  case round =>
    obtain ⟨j, n2, c2, a2, R2, hj, hjm, rfl, rfl, HJ⟩ := hrel
    by_cases hlt : j < n
    case neg =>
      have q : ¬ ((j : Int) < (n : Int)) := by omega
      have HE : Hid (La.grown N (FS R) j = La.grown N (FS R) most) := Lib.hid (by unfold La.grown; rw [fewOf_end (FS R) (most := most) (Or.inl ⟨by rw [HLN.out]; omega, hjm⟩)])
      go_wp2
      go_ret
      exact ⟨a2, n2, c2, R2, rfl, HJ.out.1, by rw [HJ.out.2.1, HE.out], HJ.out.2.2⟩
    by_cases hlm : j < most
    case neg =>
      have q : (j : Int) < (n : Int) := by omega
      have q2 : ¬ ((j : Int) < (most : Int)) := by omega
      have HE : Hid (La.grown N (FS R) j = La.grown N (FS R) most) := Lib.hid (by unfold La.grown; rw [fewOf_end (FS R) (most := most) (Or.inr (by omega))])
      go_wp2
      go_ret
      exact ⟨a2, n2, c2, R2, rfl, HJ.out.1, by rw [HJ.out.2.1, HE.out], HJ.out.2.2⟩
    have q : (j : Int) < (n : Int) := by omega
    have q2 : (j : Int) < (most : Int) := by omega
    obtain ⟨b, off, rfl, _, hbl, hrg, hrw⟩ := (H.out.below HJ.out.2.2 (fun _ _ h => h) (fun _ _ h => h)).at_ hlt
    obtain ⟨y, hy⟩ : ∃ y, R.getD j d0 = y := ⟨_, rfl⟩
    have hs := grown_snoc N (FS R) (j := j) (by rw [HLN.out]; exact hlt)
    rw [FS_get, ← HJ.out.2.1] at hs
    rw [hy] at hrg hrw hs
    have iY := info_fact hrw
    have und := Try.underlying30
    have HS := Lib.hid hs
    have HY := Lib.hid (And.intro hrw (fc_len hrw))
    have HRG := Lib.hid (And.intro hrg hbl)
    have hn2 : n2 ≤ 40 := by
      have h1 := HJ.out.1.len
      have h2 := La.grown_len N (FS R) j
      rw [← HJ.out.2.1, FS_len] at h2
      omega
    have HG : Hid (La.Good N (FS R2) ∧ FewR R2) := Lib.hid ⟨by rw [HJ.out.2.1]; exact La.grown_good _ _ _, fewR_of HJ.out.2.1 (fun f hf => La.grown_few hf)⟩
    clear hs hrw hrg hy hbl
    go_wp2_with (first
      | ((with_reducible show wpList _ _ _ ((⟨_, Op.load 30 (.tmp 23), _, _, _, _⟩ : Oper) :: _) _ _); refine wpList_load_midG (by rfl) _ (.tmp 23) rfl b (off + j * 38) rfl (fc y) _ HRG.out.1 und rfl iY ?_)
      | fail)
    refine (few_any HY.out.1.fv).mono ?_
    rintro e w3 ⟨rfl, hb3⟩
    have HO3 := Lib.hid (HJ.out.1.below hb3)
    have HB3 := Lib.hid (HJ.out.2.2.trans (hb3.mono HJ.out.2.2.size))
    have HRG3 := Lib.hid (range_below HRG.out.1 hb3 HRG.out.2)
    have HY3 := Lib.hid (HY.out.1.below hb3 (fun b h _ => h))
    have HFS := Lib.hid HJ.out.2.1
    clear hb3 HRG HJ
    by_cases hf : y.1.man.ds.length ≤ 100
    case neg =>
      have HS' : Hid (FS R2 = La.grown N (FS R) (j + 1)) := Lib.hid (by rw [HS.out, if_neg]; unfold La.few; simpa using hf)
      rw [decide_eq_false hf]
      clear hf HS
      go_wp2
      exact ⟨⟨j + 1, n2, c2, a2, R2, by omega, by omega, rfl, by go_num, Lib.hid ⟨HO3.out, HS'.out, HB3.out⟩⟩, by simp [intOf]; omega⟩
    have HS' : Hid (La.merge N (FS R2) [y.1] = La.grown N (FS R) (j + 1)) := Lib.hid (by rw [HS.out, if_pos]; unfold La.few; simpa using hf)
    rw [decide_eq_true hf]
    have HFY := Lib.hid hf
    clear hf HS
    go_wp2_with (first
      | ((with_reducible show wpList _ _ _ ((⟨_, Op.load 30 (.tmp 31), _, _, _, _⟩ : Oper) :: _) _ _); refine wpList_load_midG (by rfl) _ (.tmp 31) rfl b (off + j * 38) rfl (fc y) _ HRG3.out und rfl iY ?_)
      | ((with_reducible show wpList _ _ _ ((⟨_, Op.buildSlice _ _ _, _, _, _, _⟩ : Oper) :: _) _ _); refine wpList_buildF factsU (by rfl) 32 rfl (fc y) HY.out.2 rfl ?_)
      | fail)
    have HA := Lib.hid (below_alloc w3 (.cells (fc y).toArray 30))
    have HQ : Hid (Fts (w3.alloc (.cells (fc y).toArray 30)) (fun _ => True) (fun b => b < w3.heap.size) (some ⟨w3.heap.size, 0, none⟩) 1 [y]) := Lib.hid (fts_one (Whole.new _ _ _) trivial (HY3.out.old.below HA.out (fun _ _ h => h)))
    have HO4 := Lib.hid (HO3.out.below HA.out)
    have HB4 := Lib.hid (HB3.out.trans (HA.out.mono HB3.out.size))
    generalize w3.alloc (.cells (fc y).toArray 30) = w4 at *
    refine (L.merge N HO4.out.fts HO4.out.le (by omega) HG.out.1 HG.out.2 HQ.out (Nat.le_refl _) (by omega) (fun z hz => by rw [List.mem_singleton.1 hz]; exact HFY.out)).mono ?_
    rintro e w5 ⟨a5, n5, c5, R5, rfl, ho5, hfs5, hb5⟩
    have HJ5 : Hid (Own w5 w.heap.size a5 n5 c5 R5 ∧ FS R5 = La.grown N (FS R) (j + 1) ∧ Below w.heap.size w w5) := Lib.hid ⟨ho5.mono HB4.out.size, hfs5.trans HS'.out, HB4.out.trans (hb5.mono HB4.out.size)⟩
    clear ho5 hfs5 hb5
    go_wp2
    exact ⟨⟨j + 1, n5, c5, a5, R5, by omega, by omega, rfl, by go_num, HJ5⟩, by simp [intOf]; omega⟩
theorem plainOf_snoc (l : List Ft.Fact) {j : Nat} (h : j < l.length) : La.plainOf l (j + 1) = if (l.getD j Ft.nought).kind = 1 then La.plainOf l j else La.plainOf l j ++ [l.getD j Ft.nought] := by
  unfold La.plainOf
  rw [take_snocF l h, List.filter_append]
  generalize l.getD j Ft.nought = g
  by_cases hw : g.kind = 1
  · rw [if_pos hw]; simp [List.filter_cons, hw]
  · rw [if_neg hw]; simp [List.filter_cons, hw]
theorem plainOf_end (l : List Ft.Fact) {j most : Nat} (h : j = l.length ∧ j ≤ most ∨ j = most) : La.plainOf l j = La.plainOf l most := by
  rcases h with ⟨h, h'⟩ | h
  · unfold La.plainOf
    rw [List.take_of_length_le (by omega), List.take_of_length_le (by omega)]
  · rw [h]
theorem plainOf_len (l : List Ft.Fact) (j : Nat) : (La.plainOf l j).length ≤ j := by
  unfold La.plainOf
  have h1 := List.length_filter_le (fun f : Ft.Fact => decide (f.kind ≠ 1)) (l.take j)
  have h2 := List.length_take_le j l
  omega
/-- A row of facts that a law lays together: its cells are the law's, its members' digests older. -/
structure Lay (w : World) (B : Nat) (a : Option Addr) (n c : Nat) (R : List Fm) : Prop where
  own : w.ownsRow B 30 38 (.slice a n c) n (flatF R)
  rows : ∀ x ∈ R, Rw w (fun b => b < B) x
  len : R.length = n
section
variable {w w' : World} {B : Nat} {a : Option Addr} {n c : Nat} {R : List Fm}
theorem Lay.get (h : Lay w B a n c R) : n ≤ c ∧ Fts w (B ≤ ·) (fun b => b < B) a n R := by
  obtain ⟨a', c', e, h1, h2⟩ := own_facts h.own h.rows h.len
  injection e with e1 e2 e3
  subst e1 e3
  exact ⟨h1, h2⟩
theorem Lay.below (h : Lay w B a n c R) (hb : Below w.heap.size w w') : Lay w' B a n c R :=
  ⟨own_keep h.own (fun b hq => hb.block b (own_lt h.own b hq)), fun x hx => (h.rows x hx).keep hb.size (fun b hlt _ => hb.block b hlt), h.len⟩
theorem Lay.nil (w : World) (B : Nat) : Lay w B none 0 0 [] := ⟨World.ownsRow_nil _ _ _ _, (fun x hx => by cases hx), rfl⟩
/-- One more. -/
theorem Lay.add {v' : Value} {y : Fm} (h : Lay w B a n c R) (hy : Rw w (fun b => b < B) y) (hown : w'.ownsRow B 30 38 v' (n + 1) (flatF R ++ flatF [y])) (hg : w.grownBy w' (Value.slice a n c).ownBlock) : ∃ a' c', v' = .slice a' (n + 1) c' ∧ Lay w' B a' (n + 1) c' (R ++ [y]) := by
  rw [← flatF_append] at hown
  have hk : ∀ x ∈ R ++ [y], Rw w' (fun b => b < B) x := fun x hx => by
    have hx' : Rw w (fun b => b < B) x := by
      rcases List.mem_append.1 hx with hx | hx
      · exact h.rows x hx
      · rw [List.mem_singleton.1 hx]; exact hy
    exact hx'.keep hg.size (fun b hlt hb => hg.block b hlt (fun e => by have := own_ge h.own b e.symm; omega))
  obtain ⟨a', c', rfl, h1, h2⟩ := own_facts hown hk (by simp [h.len])
  exact ⟨a', c', rfl, hown, hk, by simp [h.len]⟩
end
set_option maxHeartbeats 4000000 in
theorem plain_any {w : World} {S D : Nat → Prop} {a : Option Addr} {n c : Nat} {R : List Fm} (h : Fts w S D a n R) (most : Nat) (hmost : most ≤ 40) :
    Calls Try.prog 34 #[.slice a n c, .int .i64 (most : Int)] w (Lists w (La.plainOf (FS R) most)) := by
  have H := Lib.hid h.old
  have HLN := Lib.hid (show (FS R).length = n by rw [FS_len, h.1])
  clear h
  go_enter Try.func34, Try.ntmps34
  go_wp2
  generalize hBe : w.heap.size = B at *
  have HBE := Lib.hid hBe
  clear hBe
  go_loopw [5, 6] (fun v i wr => ∃ (j n2 c2 : Nat) (a2 : Option Addr) (R2 : List Fm), j ≤ n ∧ j ≤ most ∧ n2 ≤ j ∧ v = .slice a2 n2 c2 ∧ i = .int .i64 (j : Int) ∧ Hid (Lay wr B a2 n2 c2 R2 ∧ FS R2 = La.plainOf (FS R) j ∧ Below B w wr)) (fun _ i _ => most - (intOf i).toNat)
  case atStart => exact ⟨0, 0, 0, none, [], Nat.zero_le _, Nat.zero_le _, Nat.le_refl _, rfl, rfl, Lib.hid ⟨Lay.nil _ _, rfl, Below.refl _ _⟩⟩
  case round =>
    obtain ⟨j, n2, c2, a2, R2, hj, hjm, hn2, rfl, rfl, HJ⟩ := hrel
    have sj : B ≤ wr.heap.size := Nat.le_trans (by rw [HBE.out]; exact Nat.le_refl _) HJ.out.2.2.size
    by_cases hlt : j < n
    case neg =>
      have q : ¬ ((j : Int) < (n : Int)) := by omega
      have HE : Hid (La.plainOf (FS R) j = La.plainOf (FS R) most) := Lib.hid (plainOf_end (FS R) (Or.inl ⟨by rw [HLN.out]; omega, hjm⟩))
      go_wp2
      go_ret
      exact ⟨a2, n2, c2, R2, rfl, HJ.out.1.get.1, HJ.out.1.get.2.weak (fun b h _ => h) (fun b h _ => h), by rw [HJ.out.2.1, HE.out], by rw [HBE.out]; exact HJ.out.2.2⟩
    by_cases hlm : j < most
    case neg =>
      have q : (j : Int) < (n : Int) := by omega
      have q2 : ¬ ((j : Int) < (most : Int)) := by omega
      have HE : Hid (La.plainOf (FS R) j = La.plainOf (FS R) most) := Lib.hid (plainOf_end (FS R) (Or.inr (by omega)))
      go_wp2
      go_ret
      exact ⟨a2, n2, c2, R2, rfl, HJ.out.1.get.1, HJ.out.1.get.2.weak (fun b h _ => h) (fun b h _ => h), by rw [HJ.out.2.1, HE.out], by rw [HBE.out]; exact HJ.out.2.2⟩
    have q : (j : Int) < (n : Int) := by omega
    have q2 : (j : Int) < (most : Int) := by omega
    obtain ⟨b, off, rfl, _, _, hrg, hrw⟩ := (H.out.below HJ.out.2.2 (fun _ _ h => h) (fun _ _ h => h)).at_ hlt
    obtain ⟨y, hy⟩ : ∃ y, R.getD j d0 = y := ⟨_, rfl⟩
    have hs := plainOf_snoc (FS R) (j := j) (by rw [HLN.out]; exact hlt)
    rw [FS_get, ← HJ.out.2.1] at hs
    rw [hy] at hrg hrw hs
    have iY := info_fact hrw
    have und := Try.underlying30
    have c0 := range_c0 hrg
    have HS := Lib.hid hs
    have HY := Lib.hid (And.intro hrw (fc_len hrw))
    have HRG := Lib.hid hrg
    clear hs hrw hrg hy
    by_cases z : y.1.kind = 1
    · have HS' : Hid (FS R2 = La.plainOf (FS R) (j + 1)) := Lib.hid (by rw [HS.out, if_pos z])
      have z0 : (y.1.kind != 1) = false := by simp [z]
      clear z HS
      go_wp2
      exact ⟨⟨j + 1, n2, c2, a2, R2, by omega, by omega, by omega, rfl, by go_num, Lib.hid ⟨HJ.out.1, HS'.out, HJ.out.2.2⟩⟩, by simp [intOf]; omega⟩
    · have HS' : Hid (FS (R2 ++ [y]) = La.plainOf (FS R) (j + 1)) := Lib.hid (by rw [HS.out, if_neg z, FS_append]; rfl)
      have z0 : (y.1.kind != 1) = true := by simp [z]
      clear z HS
      have HQ : Hid (Fts (wr.alloc (.cells (fc y).toArray 30)) (fun _ => True) (fun b => b < B) (some ⟨wr.heap.size, 0, none⟩) 1 [y]) := Lib.hid (fts_one (Whole.new _ _ _) trivial (HY.out.1.keep (by simp) (fun b hlt _ => Below.heap_alloc _ _ _ hlt)))
      have HLA := Lib.hid (HJ.out.1.below (below_alloc wr (.cells (fc y).toArray 30)))
      go_wp2_with (first
        | ((with_reducible show wpList _ _ _ ((⟨_, Op.load 30 (.tmp 27), _, _, _, _⟩ : Oper) :: _) _ _); refine wpList_load_midG (by rfl) _ (.tmp 27) rfl b (off + j * 38) rfl (fc y) _ HRG.out und rfl iY ?_)
        | ((with_reducible show wpList _ _ _ ((⟨_, Op.buildSlice _ _ _, _, _, _, _⟩ : Oper) :: _) _ _); refine wpList_buildF factsU (by rfl) 28 rfl (fc y) HY.out.2 rfl ?_)
        | (at_builtin; refine wpList_append_facts factsU _ (by rfl) (.tmp 24) (.tmp 29) rfl B (.slice a2 n2 c2) n2 (flatF R2) rfl HLA.out.own (fun _ => True) (fun b => b < B) (some ⟨wr.heap.size, 0, none⟩) 1 1 [y] rfl HQ.out (by omega) (by omega) (by simp; omega) ?_)
        | fail)
      intro v5 w5 hown hg _
      obtain ⟨a5, c5, rfl, hl5⟩ := HLA.out.add (HQ.out.2.1 y (List.mem_singleton.2 rfl)) hown hg
      have HJ5 : Hid (Lay w5 B a5 (n2 + 1) c5 (R2 ++ [y]) ∧ FS (R2 ++ [y]) = La.plainOf (FS R) (j + 1) ∧ Below B w w5) := Lib.hid ⟨hl5, HS'.out, (HJ.out.2.2.alloc sj _).grown hg (by simp; omega) (own_ge HLA.out.own)⟩
      clear hown hg hl5
      go_wp2
      exact ⟨⟨j + 1, n2 + 1, c5, a5, R2 ++ [y], by omega, by omega, by omega, rfl, by go_num, HJ5⟩, by simp [intOf]; omega⟩
end Go.Proofs.Ytdfmfjahnnifnaa
