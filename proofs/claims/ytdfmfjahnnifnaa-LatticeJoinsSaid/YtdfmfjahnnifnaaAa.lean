/-
  slices.IndexFunc and slices.ContainsFunc over facts, whatever is sought; the closure that Has hands over; Has.
-/
import Derived.Test.YtdfmfjahnnifnaaLa
import Derived.Shelf.Abstract
namespace La
open Ft
/-- Where the first one that is sought stands; -1 if there is none. -/
def idx (p : Fact → Bool) (l : List Fact) : Int := if l.findIdx p < l.length then (l.findIdx p : Int) else -1
theorem findIdx_is {p : Fact → Bool} {l : List Fact} {j : Nat} (hj : j < l.length) (h : p (l.getD j nought) = true) (hb : ∀ i, i < j → p (l.getD i nought) = false) : l.findIdx p = j := by
  refine (List.findIdx_eq hj).2 ⟨by simpa [hj] using h, fun i hi => ?_⟩
  have : i < l.length := by omega
  simpa [this] using hb i hi
theorem idx_hit {p : Fact → Bool} {l : List Fact} {j : Nat} (hj : j < l.length) (h : p (l.getD j nought) = true) (hb : ∀ i, i < j → p (l.getD i nought) = false) : idx p l = j := by
  unfold idx
  rw [findIdx_is hj h hb, if_pos hj]
theorem idx_miss {p : Fact → Bool} {l : List Fact} (hb : ∀ i, i < l.length → p (l.getD i nought) = false) : idx p l = -1 := by
  unfold idx
  rw [if_neg]
  intro h
  have h1 := List.findIdx_getElem (w := h)
  have h2 := hb _ h
  simp only [h, List.getD_eq_getElem?_getD, List.getElem?_eq_getElem, Option.getD_some] at h2
  rw [h1] at h2
  cases h2
theorem idx_ge {p : Fact → Bool} {l : List Fact} : 0 ≤ idx p l ↔ ∃ f ∈ l, p f = true := by
  unfold idx
  by_cases h : l.findIdx p < l.length
  · rw [if_pos h]
    exact ⟨fun _ => ⟨_, List.getElem_mem h, List.findIdx_getElem (w := h)⟩, fun _ => by omega⟩
  · rw [if_neg h]
    refine ⟨fun h' => by omega, fun ⟨f, hf, hp⟩ => absurd (List.findIdx_lt_length_of_exists ⟨f, hf, hp⟩) h⟩
theorem idx_has {l : List Fact} {k e n : Int} : decide (0 ≤ idx (fun f => decide (key f k e n)) l) = decide (has l k e n) := by
  refine decide_eq_decide.2 ?_
  rw [idx_ge]
  unfold has
  simp only [decide_eq_true_eq]
end La
namespace Go.Proofs.Ytdfmfjahnnifnaa
set_option maxRecDepth 20000
set_option linter.unusedSimpArgs false
set_option linter.unusedVariables false
open Go.RowKit Go.Great Go.Shelf
/-- What is asked of a function that is handed over, on facts. -/
def Pred (g : Nat) (lb : Array Value) (p : Ft.Fact → Bool) (w : World) : Prop :=
  ∀ (W : World) (D : Nat → Prop) (x : Fm), Below w.heap.size w W → Rw W D x → Calls Try.prog g (#[.agg (fc x).toArray] ++ lb) W fun e w' => e = .returned (.bool (p x.1)) ∧ Below W.heap.size W w'
theorem Pred.on {g : Nat} {lb : Array Value} {p : Ft.Fact → Bool} {w w' : World} (h : Pred g lb p w) (hb : Below w.heap.size w w') : Pred g lb p w' :=
  fun W D x hW hx => h W D x (hb.trans (hW.mono hb.size)) hx
set_option maxHeartbeats 2000000 in
theorem index_any {g : Nat} {lb : Array Value} {p : Ft.Fact → Bool} {w : World} {S D : Nat → Prop} {a : Option Addr} {n c : Nat} {R : List Fm} (eg : ∀ args w, (callFunc g args).run Try.prog w = .ok (.enter g args) w) (hp : Pred g lb p w) (h : Fts w S D a n R) (hn : n ≤ 1000000) :
    Calls Try.prog 44 #[.slice a n c, .func (.func g) #[] lb] w fun e w' => e = .returned (.int .i64 (La.idx p (FS R))) ∧ Below w.heap.size w w' := by
  have H := Lib.hid h.old
  have HP := Lib.hid hp
  have HLN := Lib.hid (show (FS R).length = n by rw [FS_len, h.1])
  clear h hp
  go_enter Try.func44, Try.ntmps44
  go_wp2
  go_loopw [5, 8] (fun _ i wr => ∃ j : Nat, j ≤ n ∧ i = .int .i64 (j : Int) ∧ Hid (∀ i, i < j → p ((FS R).getD i Ft.nought) = false) ∧ Hid (Below w.heap.size w wr)) (fun _ i _ => n - (intOf i).toNat)
  case atStart => exact ⟨0, Nat.zero_le _, rfl, Lib.hid (fun i hi => absurd hi (Nat.not_lt_zero i)), Lib.hid (Below.refl _ _)⟩
  case round =>
    obtain ⟨j, hj, rfl, HN, HB⟩ := hrel
    by_cases hlt : j < n
    · obtain ⟨b, off, rfl, _, hbl, hrg, hrw⟩ := (H.out.below HB.out (fun _ _ h => h) (fun _ _ h => h)).at_ hlt
      obtain ⟨y, hy⟩ : ∃ y, R.getD j d0 = y := ⟨_, rfl⟩
      rw [hy] at hrg hrw
      have hcall := HP.out wr _ y HB.out hrw
      have iY := info_fact hrw
      have HG := Lib.hid (show (FS R).getD j Ft.nought = y.1 by rw [FS_get, hy])
      have und := Try.underlying30
      have q : (j : Int) < (n : Int) := by omega
      have HRG := Lib.hid hrg
      clear hy hrw hrg
      obtain ⟨Y, hY⟩ : ∃ Y, fc y = Y := ⟨_, rfl⟩
      rw [hY] at HRG iY hcall
      clear hY
      obtain ⟨t, ht⟩ : ∃ t, p y.1 = t := ⟨_, rfl⟩
      rw [ht] at hcall
      have HT := Lib.hid ht
      have HC := Lib.hid hcall
      clear ht hcall
      cases t with
      | true =>
        have HI := Lib.hid (La.idx_hit (p := p) (l := FS R) (j := j) (by rw [HLN.out]; exact hlt) (by rw [HG.out]; exact HT.out) HN.out)
        go_wp2_with (first
          | ((with_reducible show wpList _ _ _ ((⟨_, Op.load 30 (.tmp 14), _, _, _, _⟩ : Oper) :: _) _ _); refine wpList_load_midG (by rfl) _ (.tmp 14) rfl b (off + j * 38) rfl Y _ HRG.out und rfl iY ?_)
          | (go_at_fn g; refine HC.out.mono ?_; rintro e w3 ⟨rfl, hb3⟩)
          | fail)
        have HB3 := Lib.hid (HB.out.trans (hb3.mono HB.out.size))
        clear hb3
        go_ret
        exact ⟨ret_i64 HI.out.symm, HB3.out⟩
      | false =>
        have HN' : Hid (∀ i, i < j + 1 → p ((FS R).getD i Ft.nought) = false) := Lib.hid (fun i hi => by
          by_cases hij : i = j
          · rw [hij, HG.out]; exact HT.out
          · exact HN.out i (by omega))
        go_wp2_with (first
          | ((with_reducible show wpList _ _ _ ((⟨_, Op.load 30 (.tmp 14), _, _, _, _⟩ : Oper) :: _) _ _); refine wpList_load_midG (by rfl) _ (.tmp 14) rfl b (off + j * 38) rfl Y _ HRG.out und rfl iY ?_)
          | (go_at_fn g; refine HC.out.mono ?_; rintro e w3 ⟨rfl, hb3⟩)
          | fail)
        have HB3 := Lib.hid (HB.out.trans (hb3.mono HB.out.size))
        clear hb3
        exact ⟨⟨j + 1, by omega, by go_num, HN', HB3⟩, by simp [intOf]; omega⟩
    · have q : ¬ ((j : Int) < (n : Int)) := by omega
      have HI : Hid (La.idx p (FS R) = -1) := Lib.hid (La.idx_miss fun i hi => HN.out i (by rw [HLN.out] at hi; omega))
      go_wp2
      go_ret
      exact ⟨ret_i64 HI.out.symm, HB.out⟩
theorem contains_any {g : Nat} {lb : Array Value} {p : Ft.Fact → Bool} {w : World} {S D : Nat → Prop} {a : Option Addr} {n c : Nat} {R : List Fm} (eg : ∀ args w, (callFunc g args).run Try.prog w = .ok (.enter g args) w) (hp : Pred g lb p w) (h : Fts w S D a n R) (hn : n ≤ 1000000) :
    Calls Try.prog 55 #[.slice a n c, .func (.func g) #[] lb] w fun e w' => e = .returned (.bool (decide (0 ≤ La.idx p (FS R)))) ∧ Below w.heap.size w w' := by
  have HC := Lib.hid (index_any (c := c) eg hp h hn)
  clear h hp
  obtain ⟨r, hr⟩ : ∃ r, La.idx p (FS R) = r := ⟨_, rfl⟩
  rw [hr] at HC ⊢
  clear hr
  go_enter Try.func55, Try.ntmps55
  go_wp2_with fail
  refine HC.out.mono ?_
  rintro e w3 ⟨rfl, hb3⟩
  have HB3 := Lib.hid hb3
  clear hb3
  go_wp2
  go_ret
  exact ⟨ret_bool (by simp), HB3.out⟩
/-- What a fact in a new block is. -/
theorem fb_new {w : World} {D : Nat → Prop} {x : Fm} (h : Rw w D x) : FB (w.alloc (.cells (fc x).toArray 30)) w.heap.size (fc x).toArray x.2 x.1 :=
  ⟨Whole.new _ _ _, rfl, (h.1.old.below (below_alloc w _) (fun _ _ h => h)).old, h.2.1, h.2.2⟩
theorem cell_alloc {w : World} {p : Addr} {v : Value} (h : w.cell? p = some v) (o : Obj) : (w.alloc o).cell? p = some v := by
  have hlt := World.block_lt_of_cell? w _ h
  rw [← h]
  exact World.cell?_of_block (w := w) ((below_alloc w o).block _ hlt)
set_option maxHeartbeats 2000000 in
theorem has1_any {W : World} {D : Nat → Prop} {x : Fm} (hx : Rw W D x) {A B C : Nat} {k e n : Int} (hA : W.cell? ⟨A, 0, none⟩ = some (.int .i64 k)) (hB : W.cell? ⟨B, 0, none⟩ = some (.int .i64 e)) (hC : W.cell? ⟨C, 0, none⟩ = some (.int .i64 n)) :
    Calls Try.prog 56 #[.agg (fc x).toArray, .pointer (some ⟨A, 0, none⟩), .pointer (some ⟨B, 0, none⟩), .pointer (some ⟨C, 0, none⟩)] W fun r w' => r = .returned (.bool (decide (La.key x.1 k e n))) ∧ Below W.heap.size W w' := by
  have hfb := fb_new hx
  have k0 := hfb.c0
  have k1 := hfb.c1
  have k2 := hfb.c2
  have a0 := cell_alloc hA (.cells (fc x).toArray 30)
  have a1 := cell_alloc hB (.cells (fc x).toArray 30)
  have a2 := cell_alloc hC (.cells (fc x).toArray 30)
  have HB := Lib.hid (below_alloc W (.cells (fc x).toArray 30))
  clear hA hB hC hfb hx
  obtain ⟨⟨xk, xe, xn, xm⟩, xM⟩ := x
  simp only at k0 k1 k2
  obtain ⟨X, hX⟩ : ∃ X, fc ((⟨xk, xe, xn, xm⟩, xM) : Fm) = X := ⟨_, rfl⟩
  rw [hX] at k0 k1 k2 a0 a1 a2 HB ⊢
  clear hX
  obtain ⟨t, ht⟩ : ∃ t, decide (La.key (((⟨xk, xe, xn, xm⟩, xM) : Fm).1) k e n) = t := ⟨_, rfl⟩
  rw [ht]
  have ht' : decide (xk = k ∧ xe = e ∧ xn = n) = t := ht
  have HT := Lib.hid ht'
  clear ht ht'
  generalize hw1 : W.alloc (.cells X.toArray 30) = w1 at *
  by_cases z0 : xk = k
  case neg =>
    have q0 : (xk == k) = false := by simp [z0]
    have HV : Hid (t = false) := Lib.hid (by rw [← HT.out]; simp [z0])
    clear z0
    go_enter Try.func56, Try.ntmps56
    go_wp2
    go_ret
    exact ⟨ret_bool HV.out.symm, HB.out⟩
  have q0 : (xk == k) = true := by simp [z0]
  by_cases z1 : xe = e
  case neg =>
    have q1 : (xe == e) = false := by simp [z1]
    have HV : Hid (t = false) := Lib.hid (by rw [← HT.out]; simp [z1])
    clear z0 z1
    go_enter Try.func56, Try.ntmps56
    go_wp2
    go_ret
    exact ⟨ret_bool HV.out.symm, HB.out⟩
  have q1 : (xe == e) = true := by simp [z1]
  by_cases z2 : xn = n
  case neg =>
    have q2 : (xn == n) = false := by simp [z2]
    have HV : Hid (t = false) := Lib.hid (by rw [← HT.out]; simp [z2])
    clear z0 z1 z2
    go_enter Try.func56, Try.ntmps56
    go_wp2
    go_ret
    exact ⟨ret_bool HV.out.symm, HB.out⟩
  have q2 : (xn == n) = true := by simp [z2]
  have HV : Hid (t = true) := Lib.hid (by rw [← HT.out]; simp [z0, z1, z2])
  clear z0 z1 z2
  go_enter Try.func56, Try.ntmps56
  go_wp2
  go_ret
  exact ⟨ret_bool HV.out.symm, HB.out⟩
theorem eg_has : ∀ args w, (callFunc 56 args).run Try.prog w = .ok (.enter 56 args) w := enters_of Try.func56 (by kernel_rfl) rfl
theorem pred_has {w : World} {A B C : Nat} {k e n : Int} (hA : w.cell? ⟨A, 0, none⟩ = some (.int .i64 k)) (hB : w.cell? ⟨B, 0, none⟩ = some (.int .i64 e)) (hC : w.cell? ⟨C, 0, none⟩ = some (.int .i64 n)) :
    Pred 56 #[.pointer (some ⟨A, 0, none⟩), .pointer (some ⟨B, 0, none⟩), .pointer (some ⟨C, 0, none⟩)] (fun f => decide (La.key f k e n)) w := by
  intro W D x hW hx
  have c1 := (hW.cell (p := ⟨A, 0, none⟩) (World.block_lt_of_cell? w _ hA)).trans hA
  have c2 := (hW.cell (p := ⟨B, 0, none⟩) (World.block_lt_of_cell? w _ hB)).trans hB
  have c3 := (hW.cell (p := ⟨C, 0, none⟩) (World.block_lt_of_cell? w _ hC)).trans hC
  exact has1_any hx c1 c2 c3
set_option maxHeartbeats 2000000 in
theorem has_any {w : World} {S D : Nat → Prop} {a : Option Addr} {n c : Nat} {R : List Fm} (h : Fts w S D a n R) (hn : n ≤ 1000000) (k e m : Int) :
    Calls Try.prog 29 #[.slice a n c, .int .i64 k, .int .i64 e, .int .i64 m] w fun r w' => r = .returned (.bool (decide (La.has (FS R) k e m))) ∧ Below w.heap.size w w' := by
  have hmf : ∀ (fn : Fn) (first cap : Array Value) (w : World), (Instr.makeFunc fn first cap).run Try.prog w = .ok (.func fn first cap) w := fun _ _ _ _ => rfl
  have hb3 : Below w.heap.size w (((w.alloc (.cells #[.int .i64 k] 3)).alloc (.cells #[.int .i64 e] 2)).alloc (.cells #[.int .i64 m] 3)) := ((below_alloc w _).alloc (by simp) _).alloc (by simp; omega) _
  have c1 : (((w.alloc (.cells #[.int .i64 k] 3)).alloc (.cells #[.int .i64 e] 2)).alloc (.cells #[.int .i64 m] 3)).cell? ⟨w.heap.size, 0, none⟩ = some (.int .i64 k) := cell_alloc (cell_alloc ((Whole.new w 3 #[.int .i64 k]).cell 0) _) _
  have c2 : (((w.alloc (.cells #[.int .i64 k] 3)).alloc (.cells #[.int .i64 e] 2)).alloc (.cells #[.int .i64 m] 3)).cell? ⟨w.heap.size + 1, 0, none⟩ = some (.int .i64 e) := by
    have := cell_alloc ((Whole.new (w.alloc (.cells #[.int .i64 k] 3)) 2 #[.int .i64 e]).cell 0) (.cells #[.int .i64 m] 3)
    simpa using this
  have c3 : (((w.alloc (.cells #[.int .i64 k] 3)).alloc (.cells #[.int .i64 e] 2)).alloc (.cells #[.int .i64 m] 3)).cell? ⟨w.heap.size + 1 + 1, 0, none⟩ = some (.int .i64 m) := by
    have := (Whole.new ((w.alloc (.cells #[.int .i64 k] 3)).alloc (.cells #[.int .i64 e] 2)) 3 #[.int .i64 m]).cell 0
    simpa using this
  have HC := Lib.hid (contains_any (c := c) eg_has (pred_has c1 c2 c3) (h.old.below hb3 (fun _ _ h => h) (fun _ _ h => h)) hn)
  have HB := Lib.hid hb3
  obtain ⟨r, hr⟩ : ∃ r, decide (0 ≤ La.idx (fun f => decide (La.key f k e m)) (FS R)) = r := ⟨_, rfl⟩
  rw [hr] at HC
  have HR := Lib.hid (La.idx_has.symm.trans hr)
  clear hr hb3 c1 c2 c3 h
  generalize hw3 : ((w.alloc (.cells #[.int .i64 k] 3)).alloc (.cells #[.int .i64 e] 2)).alloc (.cells #[.int .i64 m] 3) = w3 at *
  go_enter Try.func29, Try.ntmps29
  go_wp2_with fail
  refine HC.out.mono ?_
  rintro e w4 ⟨rfl, hb4⟩
  have HB4 := Lib.hid (HB.out.trans (hb4.mono HB.out.size))
  clear hb4
  go_wp2
  go_ret
  exact ⟨ret_bool HR.out.symm, HB4.out⟩
end Go.Proofs.Ytdfmfjahnnifnaa
